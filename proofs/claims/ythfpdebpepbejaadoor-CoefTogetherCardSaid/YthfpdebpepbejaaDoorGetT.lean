/-
  The contract of the table's Get.
-/
import Derived.Test.YthfpdebpepbejaaDoorAwake5
import Derived.Test.YthfpdebpepbejaaDoorBit
namespace Go.Proofs.YthfpdebpepbejaaDoor
open Go.RowKit

/-- k bits more at most, behind the z bits of m: where the reader stands then, the value, the error -/
def getsF (L : List En) (l : List Int) : Nat → St → Nat → Nat → St × Int × Int
  | 0, s, _, _ => (s, 0, 6)
  | k + 1, s, m, z => if (bitF l s).2.2 = 0 then
      (match get L (2 * m + (bitF l s).2.1, z + 1) with
        | some e => ((bitF l s).1, e.1, 0)
        | none => getsF L l k (bitF l s).1 (2 * m + (bitF l s).2.1) (z + 1))
    else (s, 0, (bitF l s).2.2)
theorem getsF_err {L : List En} {l : List Int} {k m z : Nat} {s : St} (h : (bitF l s).2.2 ≠ 0) : getsF L l (k + 1) s m z = (s, 0, (bitF l s).2.2) := by rw [getsF, if_neg h]
theorem getsF_hit {L : List En} {l : List Int} {k m z : Nat} {s : St} {e : En} (h : (bitF l s).2.2 = 0) (hg : get L (2 * m + (bitF l s).2.1, z + 1) = some e) : getsF L l (k + 1) s m z = ((bitF l s).1, e.1, 0) := by rw [getsF, if_pos h, hg]
theorem getsF_miss {L : List En} {l : List Int} {k m z : Nat} {s : St} (h : (bitF l s).2.2 = 0) (hg : get L (2 * m + (bitF l s).2.1, z + 1) = none) : getsF L l (k + 1) s m z = getsF L l k (bitF l s).1 (2 * m + (bitF l s).2.1) (z + 1) := by rw [getsF, if_pos h, hg]

/-- what Get tells -/
def GotT (w : World) (r g : Nat) (l : List Int) (R : St × Int × Int) (e : Ending) (w' : World) : Prop :=
  e = .returned (.tuple #[.int .i64 R.2.1, .int .i64 R.2.2]) ∧ Rd w' r g l R.1 ∧ Kept (fun i => i = r) w w'

structure GettingT (w wr : World) (lo hi t r g q : Nat) (B V : List Int) (L : List En) (l : List Int) (R : St × Int × Int) (k : Nat) (s : St) (m : Nat) : Prop where
  tab : Tb wr lo hi t B V L
  rd : Rd wr r g l s
  nxt : Box wr q 116 #[.int .i64 (m : Int), .int .i64 (k : Int)]
  kept : Kept (fun i => i = r) w wr
  res : getsF L l (16 - k) s m k = R
  fits : m < 2 ^ k
  out : r < lo ∨ hi ≤ r
  qnew : w.heap.size ≤ q ∧ r ≠ q ∧ g ≠ q ∧ (q < lo ∨ hi ≤ q)

set_option maxRecDepth 20000 in
set_option maxHeartbeats 1600000 in
theorem getT_any (w : World) (lo hi t r g : Nat) (B V : List Int) (L : List En) (l : List Int) (s : St) (h : Tb w lo hi t B V L) (hr : Rd w r g l s) (hout : r < lo ∨ hi ≤ r) (hhi : hi ≤ w.heap.size) :
    Calls Tryd.prog 59 #[.pointer (some ⟨t, 0, none⟩), .pointer (some ⟨r, 0, none⟩)] w (GotT w r g l (getsF L l 16 s 0 0)) := by
  obtain ⟨R, hR⟩ : ∃ R, R = getsF L l 16 s 0 0 := ⟨_, rfl⟩
  rw [← hR]
  have hz63 : ∀ w, (zeroValue 116).run Tryd.prog w = .ok (.agg #[.int .i64 0, .int .i64 0]) w := fun w => by kernel_rfl
  obtain ⟨q, hq⟩ : ∃ q, q = w.heap.size := ⟨_, rfl⟩
  obtain ⟨w1, hw1⟩ : ∃ w1, w1 = w.alloc (.cells #[.int .i64 0, .int .i64 0] 116) := ⟨_, rfl⟩
  have bel : Below w.heap.size w w1 := by rw [hw1]; exact on_alloc _ _
  have hG : GettingT w w1 lo hi t r g q B V L l R 0 s 0 := by
    refine ⟨h.on bel, hr.on bel, by rw [hw1, hq]; exact Box.made _ _ _, Kept.of_below bel _, hR.symm, by omega, hout, by omega, ?_, ?_, by omega⟩
    · have := hr.box.lt; omega
    · have := hr.own.lt; omega
  have HG := Lib.hid (And.intro hG (And.intro hw1 hq))
  clear hG hw1 hq bel h hr hout hhi hR
  go_enter Tryd.func59, Tryd.ntmps59
  go_wp2
  rw [← HG.out.2.1, ← HG.out.2.2]
  go_loopw [13] (fun i wr => ∃ k s' m, k ≤ 16 ∧ i = .int .i64 ((k : Nat) : Int) ∧ GettingT w wr lo hi t r g q B V L l R k s' m) (fun i _ => 16 - (intOf i).toNat)
  case atStart => exact ⟨0, s, 0, by omega, rfl, HG.out.1⟩
  case round =>
    obtain ⟨k, s', m, hk, rfl, hT⟩ := hrel
    have HT := Lib.hid hT
    by_cases hlt : k < 16
    · have HBit := Lib.hid (bit_any wr r g l s' hT.rd)
      have hbit := bitF_bit hT.rd.fit hT.rd.ok
      have hres := hT.res
      obtain ⟨j, hj⟩ : ∃ j, 16 - k = j + 1 := ⟨16 - k - 1, by omega⟩
      rw [hj] at hres
      obtain ⟨x, hx⟩ : ∃ x, x = bitF l s' := ⟨_, rfl⟩
      have hm16 : m < 65536 := Nat.lt_of_lt_of_le hT.fits (pow16 (by omega))
      rw [← hx] at HBit hbit
      have HX := Lib.hid (And.intro hx (And.intro hres hj))
      clear hx hres hT hj
      obtain ⟨s2, b, E⟩ := x
      dsimp only at hbit
      go_wp2_with fail
      refine HBit.out.mono ?_
      rintro e w2 ⟨rfl, hrd2, k2⟩
      dsimp only at hrd2 ⊢
      have H2 := Lib.hid (And.intro hrd2 k2)
      clear hrd2 k2
      by_cases hE : E = 0
      · subst hE
        have hT2 := HT.out.tab.kept H2.out.2 (fun b' h1 h2 e => by have := HT.out.out; omega)
        have hb2 := H2.out.2.box HT.out.nxt (fun e => HT.out.qnew.2.1 e.symm)
        have HA := Lib.hid (codeAdd_any w2 q m k b hb2 hbit (by omega) (by omega))
        clear hb2
        go_wp2_with fail
        refine HA.out.mono ?_
        rintro e w3 ⟨rfl, hb3, k3⟩
        obtain ⟨m', hm'⟩ : ∃ m', m' = 2 * m + b := ⟨_, rfl⟩
        obtain ⟨z', hz'⟩ : ∃ z', z' = k + 1 := ⟨_, rfl⟩
        rw [← hm', ← hz'] at hb3
        have hT3 := hT2.kept k3 (fun b' h1 h2 e => by have := HT.out.qnew; omega)
        have hr3 := H2.out.1.kept k3 HT.out.qnew.2.1 HT.out.qnew.2.2.1
        have kk : Kept (fun i => i = r) w w3 := (HT.out.kept.trans H2.out.2 (fun _ _ e => e)).trans k3 (fun i hi e => by have := HT.out.qnew.1; omega)
        have c0 : w3.cell? ⟨q, 0, none⟩ = some (.int .i64 (m' : Int)) := hb3.cell 0
        have c1 : w3.cell? ⟨q, 1, none⟩ = some (.int .i64 (z' : Int)) := hb3.cell 1
        have H3 := Lib.hid (And.intro hT3 (And.intro hr3 (And.intro hb3 (And.intro kk (And.intro hm' hz')))))
        obtain ⟨A, n, c, mm, hTA⟩ := hT3
        have c2 := (hTA.box.cell 529).trans (tabC_map hTA.len)
        have hm17 : m' < 200000 := by omega
        have hz17 : z' < 20 := by omega
        have hlook := Mq.look (w := w3.drew) (hTA.map.block rfl) (b := m') (s := z') (by omega) (by omega)
        unfold codeV at hlook
        clear hT2 k3 hr3 kk hb3 hTA hm' hz'
        obtain ⟨o, ho⟩ : ∃ o, o = get L (m', z') := ⟨_, rfl⟩
        rw [← ho] at hlook
        have HO := Lib.hid ho
        clear ho
        rcases o with _ | en
        · simp only [Option.map_none, Option.getD_none, Option.isSome_none] at hlook
          go_wp2_with fail
          go_region
          all_goals
            (clear c0 c1 c2 hlook
             go_wp2
             go_roundw
             case rel =>
               obtain ⟨hT3, hr3, hb3, kk, hm', hz'⟩ := H3.out
               have hres := HX.out.2.1
               refine ⟨k + 1, s2, m', by omega, by go_num, hT3.kept ((Kept.refl (fun _ => False) w3).drewN _) (fun _ _ _ h => h), hr3.kept ((Kept.refl (fun _ => False) w3).drewN _) (fun h => h) (fun h => h), ?_, kk.drewN _, ?_, ?_, HT.out.out, HT.out.qnew⟩
               · rw [← hz']; exact hb3.drewN _
               · have ho := HO.out
                 have hx := HX.out.1
                 rw [getsF_miss (by rw [← hx]) (by rw [← hx]; dsimp only; rw [← hm', ← hz']; exact ho.symm)] at hres
                 rw [← hx] at hres
                 dsimp only at hres
                 rw [← hm'] at hres
                 have hj := HX.out.2.2
                 rw [show 16 - (k + 1) = j by omega]
                 exact hres
               · have := HT.out.fits
                 rw [Nat.pow_succ]
                 omega
             case measure => simp [intOf]; omega)
        · simp only [Option.map_some, Option.getD_some, Option.isSome_some] at hlook
          go_wp2_with fail
          go_region
          all_goals
            (clear c0 c1 c2 hlook
             go_wp2
             go_ret2
             obtain ⟨hT3, hr3, hb3, kk, hm', hz'⟩ := H3.out
             have hres := HX.out.2.1
             have ho := HO.out
             have hx := HX.out.1
             rw [getsF_hit (by rw [← hx]) (by rw [← hx]; dsimp only; rw [← hm', ← hz']; exact ho.symm)] at hres
             rw [← hx] at hres
             rw [← hres]
             exact ⟨rfl, hr3.kept ((Kept.refl (fun _ => False) w3).drewN _) (fun h => h) (fun h => h), kk.drewN _⟩)
      · have hEi : ¬ E = 0 := hE
        have hEb : (E == 0) = false := by simpa using hE
        go_wp2
        go_ret2
        have hres := HX.out.2.1
        have hx := HX.out.1
        rw [getsF_err (by rw [← hx]; exact hE)] at hres
        rw [← hx] at hres
        rw [← hres]
        have hs : s2 = s' := by
          have h1 : (bitF l s').2.2 = 0 ∨ (bitF l s').1 = s' := by
            unfold bitF
            split
            · exact .inl rfl
            · split
              · exact .inl rfl
              · exact .inr rfl
          rw [← hx] at h1
          rcases h1 with h1 | h1
          · exact absurd h1 hE
          · exact h1
        rw [hs] at H2
        exact ⟨rfl, H2.out.1, HT.out.kept.trans H2.out.2 (fun _ _ e => e)⟩
    · have ek : k = 16 := by omega
      clear hT
      go_wp2
      go_ret2
      have hres := HT.out.res
      rw [ek, Nat.sub_self, getsF] at hres
      rw [← hres]
      exact ⟨rfl, HT.out.rd, HT.out.kept⟩
end Go.Proofs.YthfpdebpepbejaaDoor
