/-
  CursorBack: what its walks share.
-/
import Derived.Test.YthjnknhdnogaeaaBackFun
import Derived.Test.YthjnknhdnogaeaaPuts
import Derived.Deep.RegionHeld3
namespace Go.Proofs.Ythjnknhdnogaeaa
open Go.RowKit

theorem two (w : World) (wd : Nat) (W0 : World) (hW : W0 = (w.alloc (.cells #[.int .i64 wd] 3)).alloc (.cells #[.int .i64 0] 3)) :
    Box W0 w.heap.size 3 #[.int .i64 wd] ∧ Box W0 (w.heap.size + 1) 3 #[.int .i64 0] ∧ Below w.heap.size w W0 := by
  subst hW
  have h1 := Box.made (w.alloc (.cells #[.int .i64 wd] 3)) 3 #[.int .i64 0]
  simp only [World.size_alloc] at h1
  exact ⟨(Box.made w 3 _).alloc _, h1, ((Kept.refl (fun _ => False) w).alloc _).alloc _ |>.below (Nat.le_refl _) (fun _ _ h => h)⟩

theorem back_val (v : Int) (wd : Nat) (big : Bool) (hv : v ≤ 9223372036854775807) : ∃ M : Int, M ≤ 9223372036854775807 ∧ Hid (val big (told (max v 0) wd big) = M) := by
  refine ⟨_, ?_, val_told (max v 0) wd big⟩
  have hp : (0 : Int) < (256 : Int) ^ wd := Int.pow_pos (by omega)
  have h1 := Int.emod_add_mul_ediv (max v 0) ((256 : Int) ^ wd)
  have h2 : 0 ≤ (256 : Int) ^ wd * (max v 0 / (256 : Int) ^ wd) := Int.mul_nonneg (by omega) (Int.ediv_nonneg (by omega) (by omega))
  omega
theorem back_room (v : Int) (wd : Nat) (big : Bool) (P : Int) (h0 : 0 ≤ v) (hP : v < P) (hPe : Hid ((256 : Int) ^ wd = P)) : Hid (val big (told (max v 0) wd big) = v) := by
  show _ = _
  rw [val_told, hPe.out, show max v 0 = v from by omega]
  exact Int.emod_eq_of_lt h0 hP
theorem back_room8 (v : Int) (wd : Nat) (big : Bool) (h0 : 0 ≤ v) (hv : v ≤ 9223372036854775807) (h8 : wd = 8) : Hid (val big (told (max v 0) wd big) = v) := by
  refine back_room v wd big (256 ^ 8) h0 (by omega) ?_
  subst h8
  rfl
theorem back_lt {w w2 : World} {t : TypeId} {cs : Array Value} {x : Value} (_ : Box w2 w.heap.size t cs) (h : w2.cell? ⟨w.heap.size + 1, 0, none⟩ = some x) : Hid (w.heap.size + 1 < w2.heap.size) := World.block_lt_of_cell? w2 _ h

theorem Sl.cutTo {w : World} {K : Nat → Prop} {A : Option Addr} {n c : Nat} {l : List Int} {m : Nat} (h : Sl w K A n c l) (hm : m ≤ n) : Sl w K A m c (l.take m) := by
  refine ⟨⟨h.bts.fit.take m, fun h0 => ?_⟩, by rw [List.length_take, h.len]; omega, Nat.le_trans hm h.cap, h.max, h.nil⟩
  rw [List.length_take] at h0
  obtain ⟨b, off, e, hb, hK, hc⟩ := h.bts.at_ (by omega)
  refine ⟨b, off, e, hb, hK, fun i hi => ?_⟩
  rw [List.length_take] at hi
  rw [hc i (by omega)]
  simp only [List.getD_eq_getElem?_getD]
  rw [List.getElem?_take_of_lt (by omega)]
theorem cut0 (A : Option Addr) (c : Nat) : (if c = 0 then A else Option.map (fun x => x.add 0) A) = A := by
  split
  · rfl
  · cases A with
    | none => rfl
    | some a => simp [Addr.add]
theorem back_told {big : Bool} {l : List Int} {X : Int} {wd : Nat} (hX : val big l = X) (h0 : 0 ≤ X) (hf : Fit l) (hl : l.length = wd) : told (max X 0) wd big = l := by
  rw [show max X 0 = X from by omega, ← hX, ← hl]
  exact told_val big l hf
theorem below3 {w w1 w2 w3 : World} (a : Below w.heap.size w w1) (b : Below w1.drew.heap.size w1.drew w2) (c : Below w2.heap.size w2 w3) : Below w.heap.size w w3 := by
  have s1 : w.heap.size ≤ w1.drew.heap.size := a.size
  have s2 : w.heap.size ≤ w2.heap.size := Nat.le_trans s1 b.size
  exact (a.drew.trans (b.mono s1)).trans (c.mono s2)
theorem sl_str_cut {w : World} {K : Nat → Prop} {A : Option Addr} {n c : Nat} {l : List Int} {m : Nat} (h : Sl w K A n c l) (hm : m ≤ n) : (convert 22 9 (.slice A m c)).run Try.prog w = .ok (.string (strOfNums (l.take m))) w := sl_str (h.cutTo hm)

theorem back_keep {w5 w6 : World} {K : Nat → Prop} {A : Option Addr} {n c : Nat} {l : List Int} {wd a k : Nat} {X : Int} {S : ByteArray} (hS : S = strOfNums (l.take wd)) (hA : Sl w5 K A n c l) (ha : Box w5 a 3 #[.int .i64 wd]) (hk : Box w5 k 3 #[.int .i64 X]) (b6 : Below w5.drew.heap.size w5.drew w6) (hwd : wd ≤ n) :
    Hid (w6.cell? ⟨a, 0, none⟩ = some (.int .i64 wd) ∧ w6.cell? ⟨k, 0, none⟩ = some (.int .i64 X) ∧ (convert 22 9 (.slice A wd c)).run Try.prog w6 = .ok (.string S) w6) := by
  refine ⟨(b6.cell (p := ⟨a, 0, none⟩) ha.lt).trans (ha.cell 0), (b6.cell (p := ⟨k, 0, none⟩) hk.lt).trans (hk.cell 0), ?_⟩
  rw [hS]
  exact sl_str ((hA.drew.below b6 (fun _ h _ => h)).cutTo hwd)
theorem back_keep7 {w5 w6 w7 : World} {K : Nat → Prop} {A : Option Addr} {n c : Nat} {l : List Int} {wd a k : Nat} {X : Int} {S : ByteArray} (h6 : Hid (w6.cell? ⟨a, 0, none⟩ = some (.int .i64 wd) ∧ w6.cell? ⟨k, 0, none⟩ = some (.int .i64 X) ∧ (convert 22 9 (.slice A wd c)).run Try.prog w6 = .ok (.string S) w6))
    (hS : S = strOfNums (l.take wd)) (hA : Sl w5 K A n c l) (b6 : Below w5.drew.heap.size w5.drew w6) (b7 : Below w6.heap.size w6 w7) (hwd : wd ≤ n) :
    Hid (w7.cell? ⟨a, 0, none⟩ = some (.int .i64 wd) ∧ w7.cell? ⟨k, 0, none⟩ = some (.int .i64 X) ∧ (convert 22 9 (.slice A wd c)).run Try.prog w7 = .ok (.string S) w7) := by
  refine ⟨(b7.cell (p := ⟨a, 0, none⟩) (World.block_lt_of_cell? w6 _ h6.out.1)).trans h6.out.1, (b7.cell (p := ⟨k, 0, none⟩) (World.block_lt_of_cell? w6 _ h6.out.2.1)).trans h6.out.2.1, ?_⟩
  rw [hS]
  exact sl_str (((hA.drew.below b6 (fun _ h _ => h)).below b7 (fun _ h _ => h)).cutTo hwd)

end Go.Proofs.Ythjnknhdnogaeaa
