/-
  The contracts of Bit and Marker.
-/
import Derived.Test.YtgnkbopnkllgaaaGet
namespace Go.Proofs.Ytgnkbopnkllgaaa
open Go.RowKit

theorem getF_one (l : List Int) (s : St) : getF l s 1 = bitF l s := by
  rw [getF, if_neg (by omega), show (1 : Int).toNat = 0 + 1 from rfl, goF]
  by_cases hc : 0 < s.c
  · rw [bitF_full hc, if_pos rfl, goF]
    simp
  · by_cases h0 : beginE l s.at_ = 0
    · rw [bitF_begun (by omega) h0, bitF_full (by show 0 < 8; omega), if_pos rfl, goF]
      simp
    · rw [bitF_none (by omega) h0, if_neg h0]

set_option maxHeartbeats 400000 in
theorem bit_any (w : World) (r g : Nat) (l : List Int) (s : St) (h : Rd w r g l s) : Calls Try.prog 31 #[.pointer (some ⟨r, 0, none⟩)] w (Got w r g l (bitF l s)) := by
  have HT := Lib.hid (get_any w r g l s 1 h)
  rw [getF_one] at HT
  clear h
  go_enter Try.func31, Try.ntmps31
  go_wp2_with fail
  refine HT.out.mono ?_
  rintro e w1 ⟨rfl, h1, k1⟩
  have H1 := Lib.hid (And.intro h1 k1)
  clear h1 k1
  go_wp2
  go_ret2
  exact ⟨rfl, H1.out.1, H1.out.2⟩

theorem marked_not {w : World} {r g : Nat} {l : List Int} {s : St} {E : Int} (h : Rd w r g l s) (hE : markE l s.at_ = E) (h0 : E ≠ 0) {w' : World} (hb : Below w.heap.size w w') : Got w r g l (markF l s) (.returned (.tuple #[.int .i64 0, .int .i64 E])) w' := by
  rw [markF, if_neg (by rw [hE]; exact h0), hE]
  exact ⟨rfl, h.on hb, Kept.of_below hb _⟩

theorem marked_done {w w1 : World} {r g a z : Nat} {l : List Int} {s : St} (h : Rd w r g l s) (hE : markE l s.at_ = 0) (ha : a = s.at_) (hz : z = (l.getD (s.at_ + 1) 0).toNat) (hl : s.at_ + 2 ≤ l.length) (hb : Below w.heap.size w w1) {x : Int} (hx : x = ((a + 2 : Nat) : Int)) :
    Got w r g l (markF l s) (.returned (.tuple #[.int .i64 (z : Int), .int .i64 0])) (((w1.setCell ⟨r, 0, none⟩ (.int .i64 0)).setCell ⟨r, 1, none⟩ (.int .i64 0)).setCell ⟨r, 2, none⟩ (.int .i64 x)) := by
  subst hx ha hz
  have h1 := h.on hb
  have k1 : Kept (fun i => i = r) w1 (((w1.setCell ⟨r, 0, none⟩ (.int .i64 0)).setCell ⟨r, 1, none⟩ (.int .i64 0)).setCell ⟨r, 2, none⟩ (.int .i64 ((s.at_ + 2 : Nat) : Int))) :=
    (((Kept.refl (fun i => i = r) w1).setCell (p := ⟨r, 0, none⟩) (fun _ => rfl) _).setCell (p := ⟨r, 1, none⟩) (fun _ => rfl) _).setCell (p := ⟨r, 2, none⟩) (fun _ => rfl) _
  have hbx := ((h1.box.put 0 (.int .i64 0)).put 1 (.int .i64 0)).put 2 (.int .i64 ((s.at_ + 2 : Nat) : Int))
  rw [markF, if_pos hE]
  exact ⟨rfl, ⟨hbx, k1.box h1.own (fun e => h1.apart e.symm), h1.fit, ⟨hl, Nat.zero_le _, by show 0 < 2 ^ 0; omega⟩, h1.len⟩, (Kept.of_below hb (fun i => i = r)).trans k1 (fun _ _ e => e)⟩

end Go.Proofs.Ytgnkbopnkllgaaa
