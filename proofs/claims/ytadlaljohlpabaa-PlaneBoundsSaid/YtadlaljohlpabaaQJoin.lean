/-
  The contracts of plane's Join and of its closure.
-/
import Derived.Test.YtadlaljohlpabaaQHalve
namespace Go.Proofs.Ytadlaljohlpabaa
open Go.RowKit

theorem calls40 (args : Array Value) (w : World) : (callFunc 40 args).run Try.prog w = .ok (.enter 40 args) w := by kernel_rfl
theorem nb_pieces (n : Nat) : (n + 8 - 1) / 8 = nb n := rfl
theorem pieces8_any (w : World) (n : Nat) (h : n ≤ 1000) : Calls Try.prog 35 #[.int .i64 (n : Int), .int .i64 8] w (Tells0 w (.int .i64 ((nb n : Nat) : Int))) := pieces_any w n 8 h (by omega) (by omega)

set_option maxRecDepth 10000 in
set_option maxHeartbeats 1600000 in
theorem levelT_any (w : World) (gL gC : Nat) (W H x y : Nat) (A : Option Addr) (n c : Nat) (bl : List (List Int)) (bL : Box w gL 37 #[.slice A n c]) (bC : Box w gC 3 #[.int .i64 ((nb W : Nat) : Int)]) (hB : Bs w A n bl)
    (hW : 1 ≤ W ∧ W ≤ 128) (hH : 1 ≤ H ∧ H ≤ 128) (hn : n = nb W * nb H) (hx : x < W) (hy : y < H) :
    Calls Try.prog 40 #[.int .i64 (x : Int), .int .i64 (y : Int), .pointer (some ⟨gL, 0, none⟩), .pointer (some ⟨gC, 0, none⟩)] w (Atd w (joinT bl W x y)) := by
  have hnb : nb W ≤ 16 ∧ nb H ≤ 16 := by unfold nb; omega
  have hnn : n ≤ 256 := by have : nb W * nb H ≤ 16 * 16 := Nat.mul_le_mul hnb.1 hnb.2; omega
  have hix : nb W * (y / 8) + x / 8 < n := by rw [hn, Nat.mul_comm (nb W)]; exact row_lt (nb_lt hx) (nb_lt hy)
  obtain ⟨b, off, hA, hbl, hc⟩ := hB.at_ (by omega)
  subst hA
  have cL : w.cell? ⟨gL, 0, none⟩ = some (.slice (some ⟨b, off, none⟩) n c) := bL.cell 0
  have cC : w.cell? ⟨gC, 0, none⟩ = some (.int .i64 ((nb W : Nat) : Int)) := bC.cell 0
  have hj : joinT bl W x y = held ((bl.getD (nb W * (y / 8) + x / 8) []).getD (8 * (y % 8) + x % 8) 0) (-128) 127 + 128 := rfl
  obtain ⟨u, hu⟩ : ∃ u, u = nb W := ⟨_, rfl⟩
  rw [← hu] at hix cC hj hnb
  obtain ⟨m, hm⟩ : ∃ m, m = u * (y / 8) := ⟨_, rfl⟩
  rw [← hm] at hix hj
  have hlen := hB.len
  obtain ⟨z, hz⟩ : ∃ z, bl[m + x / 8]? = some z := ⟨_, List.getElem?_eq_getElem (by omega)⟩
  have c3 := hc (m + x / 8) z hz (8 * (y % 8) + x % 8) (by omega)
  rw [show bl.getD (m + x / 8) [] = z by rw [List.getD_eq_getElem?_getD, hz]; rfl] at hj
  obtain ⟨q, hq⟩ : ∃ q, q = z.getD (8 * (y % 8) + x % 8) 0 := ⟨_, rfl⟩
  rw [← hq] at c3 hj
  have hmm : (u : Int) * ((y / 8 : Nat) : Int) = (m : Int) := by rw [hm, Int.natCast_mul]
  have e1 : (y : Int) / 8 = ((y / 8 : Nat) : Int) := by omega
  have e2 : (x : Int) / 8 = ((x / 8 : Nat) : Int) := by omega
  have e3 : (y : Int) % 8 = ((y % 8 : Nat) : Int) := by omega
  have e4 : (x : Int) % 8 = ((x % 8 : Nat) : Int) := by omega
  have l3 : y % 8 < 8 := Nat.mod_lt _ (by omega)
  have l4 : x % 8 < 8 := Nat.mod_lt _ (by omega)
  have x128 : x < 128 := by omega
  have y128 : y < 128 := by omega
  obtain ⟨j8, hj8⟩ : ∃ q, q = y / 8 := ⟨_, rfl⟩
  obtain ⟨k8, hk8⟩ : ∃ q, q = x / 8 := ⟨_, rfl⟩
  obtain ⟨jr, hjr⟩ : ∃ q, q = y % 8 := ⟨_, rfl⟩
  obtain ⟨kr, hkr⟩ : ∃ q, q = x % 8 := ⟨_, rfl⟩
  rw [← hj8] at hmm e1
  rw [← hk8] at e2 c3 hix
  rw [← hjr] at e3 c3 l3
  rw [← hkr] at e4 c3 l4
  have j8b : j8 ≤ 16 := by omega
  have HO := Lib.hid (fun w' => hold_any w' q (-128) 127 (by omega))
  have hb := held_127 q
  have HJ := Lib.hid hj
  obtain ⟨p, hp⟩ : ∃ p, p = held q (-128) 127 := ⟨_, rfl⟩
  rw [← hp] at HO hb HJ
  obtain ⟨p0, p1⟩ := hb
  clear hB hbl hc bL bC hm hu hz hq hlen hn hj8 hk8 hjr hkr hp hj hx hy hW hH
  go_enter Try.func40, Try.ntmps40
  go_wp2_with fail
  refine Calls.mono (HO.out w) ?_
  rintro e w6 ⟨rfl, rfl⟩
  go_wp2_with fail
  go_ret
  exact ⟨by rw [HJ.out]; rfl, Below.refl _ _⟩
end Go.Proofs.Ytadlaljohlpabaa
