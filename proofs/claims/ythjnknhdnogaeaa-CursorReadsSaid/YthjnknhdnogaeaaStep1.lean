/-
  CursorReads: what its step does where it asks for bytes.
-/
import Derived.Test.YthjnknhdnogaeaaStep
import Derived.Test.YthjnknhdnogaeaaPuts
namespace Go.Proofs.Ythjnknhdnogaeaa
open Go.RowKit

theorem str_nil : (strOfNums []).toList.isEmpty = true := by decide +kernel

/-- a byte that is one more -/
def wrapU8 (z : Int) : Int := IntKind.u8.wrap (z + 1)

/-- what step answers: the cursor behind it, and whether the two are alike -/
def Stepped (w : World) (x : Value) (same : Bool → Prop) (S : Nat → Prop) (Q : World → Prop) (r : Ending) (w' : World) : Prop :=
  ∃ b, r = .returned (.tuple #[x, .bool b]) ∧ same b ∧ ∃ w1, Q w1 ∧ Kept (fun i => w.heap.size ≤ i) w1 w' ∧ Kept S w w'

section
variable (w : World) (a : Option Addr) (A : Option Addr) (n c : Nat) (big : Bool) (at_ : Nat) (m : Int)

set_option maxHeartbeats 1000000 in
theorem step_1n (at1 : Nat) (e1 : Int) (S : Nat → Prop) (hS : ∀ i, S i → i < w.heap.size) (Q : World → Prop) (K : Nat → Prop) (hK : ∀ b, K b → ¬ S b) (Aw : Option Addr) (nw cw : Nat) (lw : List Int) (hw : Sl w K Aw nw cw lw)
    (hR : ∀ W : World, Kept (fun _ => False) w W → Calls Try.prog 40 #[refCur A n c big at_ 0, .int .i64 m] W fun r w' => r = .returned (.tuple #[.slice Aw nw cw, refCur A n c big at1 e1]) ∧ Below W.heap.size W w')
    (hC : ∀ W : World, Kept (fun _ => False) w W → Calls Try.prog 25 #[.pointer a, .int .i64 m] W fun r w1 => r = .returned (.slice none 0 0) ∧ Kept S W w1 ∧ Q w1) :
    Calls Try.prog 16 #[.pointer a, refCur A n c big at_ 0, .agg #[.int .i64 1, .int .i64 m]] w (Stepped w (refCur A n c big at1 e1) (fun b => lw = [] → b = true) S Q) := by
  obtain ⟨s0, s1, s2, k0⟩ := stepW_parts w A n c big at_ 1 m
  have HC := Lib.hid hC
  have HR := Lib.hid (hR _ k0)
  have HS := Lib.hid (And.intro s1 (And.intro s2 (And.intro k0 (And.intro hS (And.intro hK hw)))))
  clear hC hR s0 s1 s2 k0 hS hK hw
  unfold refCur at *
  go_enter Try.func16, Try.ntmps16
  go_wp2_with fail
  refine HR.out.mono ?_
  rintro r w1 ⟨rfl, b1⟩
  obtain ⟨s1, s2, k0, hS, hK, hw⟩ := HS.out
  have y1 := ((b1.block _ s1.lt).trans s1 : Box w1 (w.heap.size + 1) 34 #[.int .i64 1, .int .i64 m])
  have y2 : Box w1 (w.heap.size + 1 + 1) 30 #[.slice none 0 0, .int .i64 0, .bool false, .int .i64 0] := (b1.block _ s2.lt).trans s2
  have hb : w.heap.size + 1 + 1 < w1.heap.size := y2.lt
  have kw : Kept (fun _ => False) w w1 := k0.trans (Kept.of_below b1 (fun _ => False)) (fun _ _ h => h)
  have z1 := Box.alloc y1 (.cells #[.slice A n c, .int .i64 at1, .bool big, .int .i64 e1] 30)
  have z2 := y2.alloc (.cells #[.slice A n c, .int .i64 at1, .bool big, .int .i64 e1] 30)
  have z3 := Box.made w1 30 #[.slice A n c, .int .i64 at1, .bool big, .int .i64 e1]
  have kz := kw.alloc (.cells #[.slice A n c, .int .i64 at1, .bool big, .int .i64 e1] 30)
  have HY := Lib.hid hb
  have d1 : (w1.alloc (.cells #[.slice A n c, .int .i64 at1, .bool big, .int .i64 e1] 30)).cell? ⟨w.heap.size + 1, 1, none⟩ = some (.int .i64 m) := z1.cell 1
  clear s1 s2 k0 HR b1 y1 y2 kw hb hS hK hw
  go_wp2_with fail
  clear d1
  obtain ⟨W1, hW1⟩ : ∃ W1, W1 = w1.alloc (.cells #[.slice A n c, .int .i64 at1, .bool big, .int .i64 e1] 30) := ⟨_, rfl⟩
  rw [← hW1] at z1 z2 z3 kz ⊢
  clear hW1
  refine (HC.out W1 kz).mono ?_
  rintro r w3 ⟨rfl, k3, hq⟩
  obtain ⟨_, _, _, hS, hK, hw⟩ := HS.out
  have g2 := k3.box z2 (fun h => by have := hS _ h; omega)
  have g3 := k3.box z3 (fun h => by have := hS _ h; have := HY.out; omega)
  have sw := (hw.kept kz (fun _ _ h => h)).kept k3 hK
  have cv1 := sl_str sw
  have cv2 : (convert 22 9 (.slice none 0 0)).run Try.prog w3 = .ok (.string ByteArray.empty) w3 := run_convert_bytes_nil w3 22 5 Try.underlying22 Try.underlying5 0 0 9 Try.underlying9
  obtain ⟨T, hT⟩ : ∃ T, T = strOfNums lw := ⟨_, rfl⟩
  rw [← hT] at cv1
  have q0 : w3.cell? ⟨w.heap.size + 1 + 1, 0, none⟩ = some (.slice none 0 0) := g2.cell 0
  have q1 : w3.cell? ⟨w.heap.size + 1 + 1, 1, none⟩ = some (.int .i64 0) := g2.cell 1
  have q2 : w3.cell? ⟨w.heap.size + 1 + 1, 2, none⟩ = some (.bool false) := g2.cell 2
  have q3 : w3.cell? ⟨w.heap.size + 1 + 1, 3, none⟩ = some (.int .i64 0) := g2.cell 3
  have p0 := g2.free 0
  have p1 := g2.free 1
  have p2 := g2.free 2
  have p3 := g2.free 3
  have j0 : w3.cell? ⟨w1.heap.size, 0, none⟩ = some (.slice A n c) := g3.cell 0
  have j1 : w3.cell? ⟨w1.heap.size, 1, none⟩ = some (.int .i64 at1) := g3.cell 1
  have j2 : w3.cell? ⟨w1.heap.size, 2, none⟩ = some (.bool big) := g3.cell 2
  have j3 : w3.cell? ⟨w1.heap.size, 3, none⟩ = some (.int .i64 e1) := g3.cell 3
  have HK := Lib.hid (And.intro k3 (And.intro hq (And.intro kz hT)))
  clear k3 hq g2 g3 z1 z2 z3 kz sw hS hK hw hT HC HS
  go_wp2_with fail
  go_loop [53] (fun i => i = .int .i64 0) (fun _ => 0)
  case atStart => exact rfl
  case round =>
    obtain rfl := hrel
    go_wp2
    have k5 := fourKept (Kept.refl (fun i => w.heap.size ≤ i) w3) (g := w.heap.size + 1 + 1) (fun _ => by omega) (.slice A n c) (.int .i64 at1) (.bool big) (.int .i64 e1)
    obtain ⟨k3, hq, kz, hT⟩ := HK.out
    exact bodyPost_ret (v := .tuple #[.agg #[.slice A n c, .int .i64 at1, .bool big, .int .i64 e1], .bool T.toList.isEmpty]) (by simp [results, Try.results16, go_sem, q0, q1, q2, q3]) rfl
      ⟨T.toList.isEmpty, rfl, (fun e => by rw [hT, e]; exact str_nil), w3, hq, k5, ((kz.mono (fun _ _ h => h.elim)).trans k3 (fun _ _ h => h)).trans k5 (fun i hi e => by omega)⟩

set_option maxHeartbeats 1000000 in
theorem step_1b (at1 : Nat) (S : Nat → Prop) (hS : ∀ i, S i → i < w.heap.size) (Q : World → Prop) (K : Nat → Prop) (hK : ∀ b, K b → ¬ S b) (Aw : Option Addr) (nw cw : Nat) (lw : List Int) (hw : Sl w K Aw nw cw lw) (hnw : nw ≤ 4000)
    (hR : ∀ W : World, Kept (fun _ => False) w W → Calls Try.prog 40 #[refCur A n c big at_ 0, .int .i64 m] W fun r w' => r = .returned (.tuple #[.slice Aw nw cw, refCur A n c big at1 0]) ∧ Below W.heap.size W w')
    (hC : ∀ W : World, Kept (fun _ => False) w W → Calls Try.prog 25 #[.pointer a, .int .i64 m] W fun r w1 => ∃ b, r = .returned (.slice (some ⟨b, 0, none⟩) nw nw) ∧ W.heap.size ≤ b ∧ Box w1 b 5 (cellsOf lw).toArray ∧ Kept S W w1 ∧ Q w1) :
    Calls Try.prog 16 #[.pointer a, refCur A n c big at_ 0, .agg #[.int .i64 1, .int .i64 m]] w (Stepped w (refCur A n c big at1 0) (fun b => b = true) S Q) := by
  obtain ⟨s0, s1, s2, k0⟩ := stepW_parts w A n c big at_ 1 m
  have HC := Lib.hid hC
  have HR := Lib.hid (hR _ k0)
  have HS := Lib.hid (And.intro s1 (And.intro s2 (And.intro k0 (And.intro hS (And.intro hK hw)))))
  clear hC hR s0 s1 s2 k0 hS hK hw
  unfold refCur at *
  go_enter Try.func16, Try.ntmps16
  go_wp2_with fail
  refine HR.out.mono ?_
  rintro r w1 ⟨rfl, b1⟩
  obtain ⟨s1, s2, k0, hS, hK, hw⟩ := HS.out
  have y1 := ((b1.block _ s1.lt).trans s1 : Box w1 (w.heap.size + 1) 34 #[.int .i64 1, .int .i64 m])
  have y2 : Box w1 (w.heap.size + 1 + 1) 30 #[.slice none 0 0, .int .i64 0, .bool false, .int .i64 0] := (b1.block _ s2.lt).trans s2
  have hb : w.heap.size + 1 + 1 < w1.heap.size := y2.lt
  have kw : Kept (fun _ => False) w w1 := k0.trans (Kept.of_below b1 (fun _ => False)) (fun _ _ h => h)
  have z1 := Box.alloc y1 (.cells #[.slice A n c, .int .i64 at1, .bool big, .int .i64 0] 30)
  have z2 := y2.alloc (.cells #[.slice A n c, .int .i64 at1, .bool big, .int .i64 0] 30)
  have z3 := Box.made w1 30 #[.slice A n c, .int .i64 at1, .bool big, .int .i64 0]
  have kz := kw.alloc (.cells #[.slice A n c, .int .i64 at1, .bool big, .int .i64 0] 30)
  have HY := Lib.hid hb
  have d1 : (w1.alloc (.cells #[.slice A n c, .int .i64 at1, .bool big, .int .i64 0] 30)).cell? ⟨w.heap.size + 1, 1, none⟩ = some (.int .i64 m) := z1.cell 1
  clear s1 s2 k0 HR b1 y1 y2 kw hb hS hK hw
  go_wp2_with fail
  clear d1
  obtain ⟨W1, hW1⟩ : ∃ W1, W1 = w1.alloc (.cells #[.slice A n c, .int .i64 at1, .bool big, .int .i64 0] 30) := ⟨_, rfl⟩
  rw [← hW1] at z1 z2 z3 kz ⊢
  have hsW : W1.heap.size = w1.heap.size + 1 := by rw [hW1]; simp
  have HSW := Lib.hid hsW
  clear hW1 hsW
  refine (HC.out W1 kz).mono ?_
  rintro r w3 ⟨b, rfl, hbW, hbox, k3, hq⟩
  obtain ⟨_, _, _, hS, hK, hw⟩ := HS.out
  have g2 := k3.box z2 (fun h => by have := hS _ h; omega)
  have g3 := k3.box z3 (fun h => by have := hS _ h; have := HY.out; omega)
  have sw := (hw.kept kz (fun _ _ h => h)).kept k3 hK
  have cv1 := sl_str sw
  have cv2 := sl_str (sl_of_box (K := fun _ => True) hbox sw.bts.fit sw.len (by simp only [maxLen]; omega) trivial)
  obtain ⟨T, hT⟩ : ∃ T, T = strOfNums lw := ⟨_, rfl⟩
  rw [← hT] at cv1 cv2
  have HK := Lib.hid (And.intro k3 (And.intro hq (And.intro kz (And.intro hbox (And.intro hbW (And.intro g2 (And.intro g3 sw.len)))))))
  clear k3 hq g2 g3 z1 z2 z3 kz sw hS hK hw hT HC HS hbox hbW
  go_wp2_with fail
  go_loopw [53] (fun i wr => ∃ (k : Nat) (cs : List Int), k ≤ nw ∧ i = .int .i64 k ∧ cs.length = nw ∧ Box wr b 5 (cellsOf cs).toArray ∧ Kept (fun j => j = b) w3 wr) (fun i _ => nw - (intOf i).toNat)
  case atStart => exact ⟨0, lw, Nat.zero_le _, rfl, HK.out.2.2.2.2.2.2.2, HK.out.2.2.2.1, Kept.refl _ _⟩
  case round =>
    obtain ⟨k, cs, hk, rfl, hcs, hbx, kb⟩ := hrel
    by_cases hlt : k < nw
    · have hck : wr.cell? ⟨b, k, none⟩ = some (.int .u8 (cs.getD k 0)) := by
        rw [hbx.cell k]
        simp [cellsOf, List.getD_eq_getElem?_getD, List.getElem?_eq_getElem (show k < cs.length by omega)]
      have hfk := hbx.free k
      obtain ⟨z, hz⟩ : ∃ z, z = cs.getD k 0 := ⟨_, rfl⟩
      rw [← hz] at hck
      have HB := Lib.hid (And.intro hbx (And.intro kb hcs))
      clear hbx kb hcs hz
      go_wp2
      go_roundw
      case rel =>
        obtain ⟨hbx, kb, hcs⟩ := HB.out
        refine ⟨k + 1, cs.set k (wrapU8 z), by omega, by go_num, by simpa using hcs, ?_, kb.setCell (p := ⟨b, k, none⟩) (fun _ => rfl) _⟩
        have h2 := hbx.put k (.int .u8 (wrapU8 z))
        rw [set_cells] at h2
        exact h2
      case measure => simp [intOf]; omega
    · have HB := Lib.hid kb
      clear hbx kb hcs
      obtain ⟨k3, hq, kz, hbox, hbW, g2, g3, hlen⟩ := HK.out
      have n2 : w.heap.size + 1 + 1 ≠ b := by have := HY.out; have := HSW.out; omega
      have n3 : w1.heap.size ≠ b := by have := HSW.out; omega
      have g2 := HB.out.box g2 n2
      have g3 := HB.out.box g3 n3
      have q0 : wr.cell? ⟨w.heap.size + 1 + 1, 0, none⟩ = some (.slice none 0 0) := g2.cell 0
      have q1 : wr.cell? ⟨w.heap.size + 1 + 1, 1, none⟩ = some (.int .i64 0) := g2.cell 1
      have q2 : wr.cell? ⟨w.heap.size + 1 + 1, 2, none⟩ = some (.bool false) := g2.cell 2
      have q3 : wr.cell? ⟨w.heap.size + 1 + 1, 3, none⟩ = some (.int .i64 0) := g2.cell 3
      have p0 := g2.free 0
      have p1 := g2.free 1
      have p2 := g2.free 2
      have p3 := g2.free 3
      have j0 : wr.cell? ⟨w1.heap.size, 0, none⟩ = some (.slice A n c) := g3.cell 0
      have j1 : wr.cell? ⟨w1.heap.size, 1, none⟩ = some (.int .i64 at1) := g3.cell 1
      have j2 : wr.cell? ⟨w1.heap.size, 2, none⟩ = some (.bool big) := g3.cell 2
      have j3 : wr.cell? ⟨w1.heap.size, 3, none⟩ = some (.int .i64 0) := g3.cell 3
      clear k3 hq kz hbox hbW g2 g3 hlen n2 n3
      go_wp2
      obtain ⟨k3, hq, kz, hbox, hbW, g2, g3, hlen⟩ := HK.out
      have hbw : w.heap.size ≤ b := by have := HY.out; have := HSW.out; omega
      have k4 := HB.out.mono (S' := fun i => w.heap.size ≤ i) (fun i _ e => by omega)
      have k5 := fourKept k4 (g := w.heap.size + 1 + 1) (fun _ => by omega) (.slice A n c) (.int .i64 at1) (.bool big) (.int .i64 0)
      exact bodyPost_ret (v := .tuple #[.agg #[.slice A n c, .int .i64 at1, .bool big, .int .i64 0], .bool true]) (by simp [results, Try.results16, go_sem, q0, q1, q2, q3]) rfl
        ⟨true, rfl, rfl, w3, hq, k5, ((kz.mono (fun _ _ h => h.elim)).trans k3 (fun _ _ h => h)).trans k5 (fun i hi e => by omega)⟩

set_option maxHeartbeats 1000000 in
theorem stepUp_1 (at1 : Nat) (e1 : Int) (sl : Value) (ch : List PanicEntry) (Q : World → Prop)
    (hR : ∀ W : World, Kept (fun _ => False) w W → Calls Try.prog 40 #[refCur A n c big at_ 0, .int .i64 m] W fun r w' => r = .returned (.tuple #[sl, refCur A n c big at1 e1]) ∧ Below W.heap.size W w')
    (hC : ∀ W : World, Kept (fun _ => False) w W → Calls Try.prog 25 #[.pointer a, .int .i64 m] W fun r w1 => r = .panicked ch ∧ Q w1) :
    Calls Try.prog 16 #[.pointer a, refCur A n c big at_ 0, .agg #[.int .i64 1, .int .i64 m]] w fun r w' => r = .panicked ch ∧ Q w' := by
  obtain ⟨s0, s1, s2, k0⟩ := stepW_parts w A n c big at_ 1 m
  have HC := Lib.hid hC
  have HR := Lib.hid (hR _ k0)
  have HS := Lib.hid (And.intro s1 k0)
  clear hC hR s0 s1 s2 k0
  unfold refCur at *
  go_enter Try.func16, Try.ntmps16
  go_wp2_with fail
  refine HR.out.mono ?_
  rintro r w1 ⟨rfl, b1⟩
  obtain ⟨s1, k0⟩ := HS.out
  have y1 := ((b1.block _ s1.lt).trans s1 : Box w1 (w.heap.size + 1) 34 #[.int .i64 1, .int .i64 m])
  have kw : Kept (fun _ => False) w w1 := k0.trans (Kept.of_below b1 (fun _ => False)) (fun _ _ h => h)
  have z1 := Box.alloc y1 (.cells #[.slice A n c, .int .i64 at1, .bool big, .int .i64 e1] 30)
  have kz := kw.alloc (.cells #[.slice A n c, .int .i64 at1, .bool big, .int .i64 e1] 30)
  have d1 : (w1.alloc (.cells #[.slice A n c, .int .i64 at1, .bool big, .int .i64 e1] 30)).cell? ⟨w.heap.size + 1, 1, none⟩ = some (.int .i64 m) := z1.cell 1
  have HZ := Lib.hid kz
  clear s1 k0 HR b1 HS y1 kw z1 kz
  go_wp2_with fail
  refine (HC.out _ HZ.out).mono ?_
  rintro r w3 ⟨rfl, hq⟩
  exact ⟨rfl, rfl, hq⟩
end

end Go.Proofs.Ythjnknhdnogaeaa
