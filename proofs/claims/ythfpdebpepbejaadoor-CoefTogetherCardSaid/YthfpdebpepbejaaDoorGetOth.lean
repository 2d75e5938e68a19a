/-
  The contracts of getNumber, of getFirst and of the reference's number. The contract of getOthers.
-/
import Derived.Test.YthfpdebpepbejaaDoorGetMath
import Derived.Test.YthfpdebpepbejaaDoorRefGet
import Derived.Test.YthfpdebpepbejaaDoorRefBytes
namespace Go.Proofs.YthfpdebpepbejaaDoor
open Go.RowKit

/-- what getNumber tells -/
def GotN (w : World) (r g : Nat) (l : List Int) (R : St × Int × Int) (e : Ending) (w' : World) : Prop :=
  e = .returned (.tuple #[.int .i64 R.2.1, .int .i64 R.2.2]) ∧ Rd w' r g l R.1 ∧ Kept (fun i => i = r) w w'

set_option maxHeartbeats 800000 in
theorem getNumber_any (w : World) (r g : Nat) (l : List Int) (s : St) (k : Nat) (h : Rd w r g l s) (hk : k ≤ 15) : Calls Tryd.prog 60 #[.pointer (some ⟨r, 0, none⟩), .int .i64 (k : Int)] w (GotN w r g l (numF l s k)) := by
  have hlt := getF_lt h.fit h.ok k
  have HG := Lib.hid (get_any w r g l s (k : Int) h)
  unfold numF
  obtain ⟨R, hR⟩ : ∃ R, R = getF l s (k : Int) := ⟨_, rfl⟩
  rw [← hR] at HG hlt ⊢
  obtain ⟨s1, v, E⟩ := R
  dsimp only at hlt ⊢
  obtain ⟨p, hp⟩ : ∃ p : Nat, p = 2 ^ k := ⟨_, rfl⟩
  have hp1 : p ≤ 32768 := by rw [hp]; exact Nat.le_trans (Nat.pow_le_pow_right (by omega) hk) (by decide)
  have hp2 : (2 : Int) ^ k = (p : Int) := by rw [hp]; simp
  unfold ext
  rw [← hp] at hlt ⊢
  clear hR hp h
  by_cases h0 : E = 0
  · subst h0
    by_cases h2 : 2 * v < p
    · rw [if_pos rfl, if_pos h2]
      have h2i : 2 * (v : Int) < (p : Int) := by omega
      go_enter Tryd.func60, Tryd.ntmps60
      go_wp2_with fail
      refine HG.out.mono ?_
      rintro e w1 ⟨rfl, hr1, k1⟩
      dsimp only at hr1 ⊢
      have H1 := Lib.hid (And.intro hr1 k1)
      clear hr1 k1
      go_wp2
      go_ret2
      exact ⟨rfl, H1.out.1, H1.out.2⟩
    · rw [if_pos rfl, if_neg h2]
      have h2i : ¬ 2 * (v : Int) < (p : Int) := by omega
      go_enter Tryd.func60, Tryd.ntmps60
      go_wp2_with fail
      refine HG.out.mono ?_
      rintro e w1 ⟨rfl, hr1, k1⟩
      dsimp only at hr1 ⊢
      have H1 := Lib.hid (And.intro hr1 k1)
      clear hr1 k1
      go_wp2
      go_ret2
      exact ⟨rfl, H1.out.1, H1.out.2⟩
  · rw [if_neg h0]
    have e0 : (E == 0) = false := by simpa using h0
    have e1 : (E != 0) = true := by simpa using h0
    go_enter Tryd.func60, Tryd.ntmps60
    go_wp2_with fail
    refine HG.out.mono ?_
    rintro e w1 ⟨rfl, hr1, k1⟩
    dsimp only at hr1 ⊢
    have H1 := Lib.hid (And.intro hr1 k1)
    clear hr1 k1
    go_wp2
    go_ret2
    exact ⟨rfl, H1.out.1, H1.out.2⟩

/-- why the first size can't be got -/
theorem firstF_err {L : List En} {l : List Int} {s : St} {R : St × Int × Int} (hR : R = getsF L l 16 s 0 0) (h : R.2.2 ≠ 0) : firstF L l s = (R.1, 0, R.2.2) := by
  unfold firstF
  rw [← hR, if_neg h]
theorem firstF_form {L : List En} {l : List Int} {s : St} {R : St × Int × Int} (hR : R = getsF L l 16 s 0 0) (h : R.2.2 = 0) (h11 : 11 < R.2.1) : firstF L l s = (R.1, 0, 4) := by
  unfold firstF
  rw [← hR, if_pos h, if_pos h11]
theorem firstF_num {L : List En} {l : List Int} {s : St} {R : St × Int × Int} (hR : R = getsF L l 16 s 0 0) (h : R.2.2 = 0) (h11 : ¬ 11 < R.2.1) : firstF L l s = numF l R.1 R.2.1.toNat := by
  unfold firstF
  rw [← hR, if_pos h, if_neg h11]

set_option maxHeartbeats 800000 in
theorem getFirst_any (w : World) (lo hi t r g : Nat) (B V : List Int) (l : List Int) (s : St) (h : Tb w lo hi t B V (codes B V)) (hv : Valid B V) (hr : Rd w r g l s) (hout : r < lo ∨ hi ≤ r) (hhi : hi ≤ w.heap.size) :
    Calls Tryd.prog 50 #[.pointer (some ⟨r, 0, none⟩), .pointer (some ⟨t, 0, none⟩)] w (GotN w r g l (firstF (codes B V) l s)) := by
  have hval := getsF_val (l := l) (valid_vals hv) 16 s 0 0
  have HG := Lib.hid (getT_any w lo hi t r g B V (codes B V) l s h hr hout hhi)
  obtain ⟨R, hR⟩ : ∃ R, R = getsF (codes B V) l 16 s 0 0 := ⟨_, rfl⟩
  have HR := Lib.hid hR
  rw [← hR] at HG hval
  clear hR h hv hr hout hhi
  by_cases h0 : R.2.2 = 0
  · by_cases h11 : 11 < R.2.1
    · rw [firstF_form HR.out h0 h11]
      obtain ⟨s1, v, E⟩ := R
      dsimp only at h0 h11 hval ⊢
      subst h0
      clear HR
      go_enter Tryd.func50, Tryd.ntmps50
      go_wp2_with fail
      refine HG.out.mono ?_
      rintro e w1 ⟨rfl, hr1, k1⟩
      dsimp only at hr1 ⊢
      have H1 := Lib.hid (And.intro hr1 k1)
      clear hr1 k1
      go_wp2
      go_ret2
      exact ⟨rfl, H1.out.1, H1.out.2⟩
    · rw [firstF_num HR.out h0 h11]
      obtain ⟨s1, v, E⟩ := R
      dsimp only at h0 h11 hval ⊢
      subst h0
      clear HR
      obtain ⟨k, rfl⟩ := Int.eq_ofNat_of_zero_le hval.1
      rw [Int.toNat_natCast]
      obtain ⟨hv0, hv1⟩ := hval
      go_enter Tryd.func50, Tryd.ntmps50
      go_wp2_with fail
      refine HG.out.mono ?_
      rintro e w1 ⟨rfl, hr1, k1⟩
      dsimp only at hr1 ⊢
      have H1 := Lib.hid (And.intro hr1 k1)
      clear hr1 k1
      go_wp2_with fail
      refine (getNumber_any w1 r g l s1 k H1.out.1 (by omega)).mono ?_
      rintro e w2 ⟨rfl, hr2, k2⟩
      have H2 := Lib.hid (And.intro hr2 k2)
      clear hr2 k2
      go_wp2
      go_ret2
      exact ⟨rfl, H2.out.1, H1.out.2.trans H2.out.2 (fun _ _ h => h)⟩
  · rw [firstF_err HR.out h0]
    obtain ⟨s1, v, E⟩ := R
    dsimp only at h0 hval ⊢
    have e0 : (E == 0) = false := by simpa using h0
    have e1 : (E != 0) = true := by simpa using h0
    clear HR hval
    go_enter Tryd.func50, Tryd.ntmps50
    go_wp2_with fail
    refine HG.out.mono ?_
    rintro e w1 ⟨rfl, hr1, k1⟩
    dsimp only at hr1 ⊢
    have H1 := Lib.hid (And.intro hr1 k1)
    clear hr1 k1
    go_wp2
    go_ret2
    exact ⟨rfl, H1.out.1, H1.out.2⟩
end Go.Proofs.YthfpdebpepbejaaDoor

namespace Go.Proofs.YthfpdebpepbejaaDoor
open Go.RowKit

/-- what getOthers tells -/
def GotO (w : World) (r g gb : Nat) (l : List Int) (O : St × List Int × Int) (e : Ending) (w' : World) : Prop :=
  e = .returned (.int .i64 O.2.2) ∧ Rd w' r g l O.1 ∧ (∃ b', Blk w' gb b' ∧ (O.2.2 = 0 → b' = O.2.1)) ∧ Kept (fun i => i = r ∨ i = gb) w w'

/-- how things stand at place k -/
structure GO (w wr : World) (lo hi t r g gb : Nat) (B V : List Int) (l : List Int) (O : St × List Int × Int) (k f : Nat) (s : St) (b : List Int) : Prop where
  rd : Rd wr r g l s
  blk : Blk wr gb b
  kept : Kept (fun i => i = r ∨ i = gb) w wr
  tab : Tab wr
  tb : Tb wr lo hi t B V (codes B V)
  res : othersG (codes B V) l f k s b = O
  fuel : 64 ≤ k + f
theorem GO.mid {w wr w2 : World} {lo hi t r g gb : Nat} {B V l : List Int} {O : St × List Int × Int} {k f : Nat} {s s2 : St} {b : List Int} (h : GO w wr lo hi t r g gb B V l O k f s b) (hr : Rd w2 r g l s2) (k2 : Kept (fun i => i = r) wr w2) (hrg : r ≠ gb) (hr0 : r ≠ 0) (hout : r < lo ∨ hi ≤ r) {f' k' : Nat}
    (hres : othersG (codes B V) l f' k' s2 b = O) (hf : 64 ≤ k' + f') : GO w w2 lo hi t r g gb B V l O k' f' s2 b :=
  ⟨hr, h.blk.kept k2 (fun e => hrg e.symm), h.kept.trans k2 (fun _ _ e => .inl e), h.tab.kept k2 (fun e => hr0 e.symm), h.tb.kept k2 (fun b' h1 h2 e => by omega), hres, hf⟩

set_option maxRecDepth 10000 in
set_option maxHeartbeats 3200000 in
theorem getOthers_any (w : World) (lo hi t r g gb : Nat) (B V : List Int) (l : List Int) (s : St) (b : List Int) (hT : Tab w) (h : Tb w lo hi t B V (codes B V)) (hv : Valid B V) (hr : Rd w r g l s) (hb : Blk w gb b)
    (hout : r < lo ∨ hi ≤ r) (hgo : gb < lo ∨ hi ≤ gb) (hhi : hi ≤ w.heap.size) (hr0 : r ≠ 0) (hg0 : gb ≠ 0) (hgg : g ≠ gb) :
    Calls Tryd.prog 51 #[.pointer (some ⟨r, 0, none⟩), .pointer (some ⟨t, 0, none⟩), .pointer (some ⟨gb, 0, none⟩)] w (GotO w r g gb l (othersG (codes B V) l 63 1 s b)) := by
  have hrg : r ≠ gb := hr.box.apart hb.box (by decide)
  obtain ⟨O, hO⟩ : ∃ O, O = othersG (codes B V) l 63 1 s b := ⟨_, rfl⟩
  rw [← hO]
  have H := Lib.hid (GO.mk (w := w) (t := t) (B := B) (V := V) hr hb (Kept.refl _ _) hT h hO.symm (show 64 ≤ 1 + 63 by omega))
  have HV := Lib.hid (And.intro hv (And.intro hout (And.intro hgo (And.intro hhi (And.intro hr0 (And.intro hg0 (And.intro hgg hrg)))))))
  clear hT h hv hr hb hout hgo hhi hr0 hg0 hO hgg hrg
  go_enter Tryd.func51, Tryd.ntmps51
  go_wp2_with fail
  go_loopw [7] (fun i wr => ∃ (k f : Nat) (s : St) (b : List Int), k ≤ 100 ∧ i = .int .i64 (k : Int) ∧ GO w wr lo hi t r g gb B V l O k f s b) (fun i _ => 200 - (intOf i).toNat)
  case atStart => exact ⟨1, 63, s, b, by omega, rfl, H.out⟩
  case round =>
    obtain ⟨k, f, s, b, hk, rfl, hP⟩ := hrel
    have HP := Lib.hid hP
    clear hP
    by_cases hlt : k < 64
    · have hki : (k : Int) < 64 := by omega
      have hval := getsF_val (l := l) (valid_vals HV.out.1) 16 s 0 0
      have HG := Lib.hid (getT_any wr lo hi t r g B V (codes B V) l s HP.out.tb HP.out.rd HV.out.2.1 (Nat.le_trans HV.out.2.2.2.1 HP.out.kept.size))
      obtain ⟨R, hR⟩ : ∃ R, R = getsF (codes B V) l 16 s 0 0 := ⟨_, rfl⟩
      obtain ⟨f', hf'⟩ : ∃ f', f = f' + 1 := ⟨f - 1, by have := HP.out.fuel; omega⟩
      have hres := HP.out.res
      rw [hf'] at hres
      have HR := Lib.hid (And.intro hR (And.intro hf' hres))
      rw [← hR] at HG hval
      clear hR hf' hres
      by_cases h0 : R.2.2 = 0
      · by_cases hv0 : R.2.1 = 0
        · have hO := othersG_stop (f := f') (b := b) HR.out.1 hlt h0 hv0
          rw [HR.out.2.2] at hO
          obtain ⟨s1, v, E⟩ := R
          dsimp only at h0 hv0 hval hO HG
          subst h0 hv0
          have HO := Lib.hid hO
          clear hO HR
          go_wp2_with fail
          refine HG.out.mono ?_
          rintro e w1 ⟨rfl, hr1, k1⟩
          dsimp only at hr1 ⊢
          have H1 := Lib.hid (HP.out.mid hr1 k1 HV.out.2.2.2.2.2.2.2 HV.out.2.2.2.2.1 HV.out.2.1 (f' := 64) (k' := 64) (by rw [othersG_end (by omega)]; exact HO.out.symm) (by omega))
          clear hr1 k1
          go_wp2
          go_ret
          refine ⟨by rw [HO.out]; rfl, ?_, ⟨b, H1.out.blk, fun _ => by rw [HO.out]⟩, H1.out.kept⟩
          rw [HO.out]
          exact H1.out.rd
        · obtain ⟨s1, v, E⟩ := R
          dsimp only at h0 hv0 hval HG
          subst h0
          obtain ⟨x, rfl⟩ := Int.eq_ofNat_of_zero_le hval.1
          obtain ⟨hx0, hx1⟩ := hval
          obtain ⟨q, hq⟩ : ∃ q, q = x / 16 := ⟨_, rfl⟩
          obtain ⟨m, hm⟩ : ∃ m, m = x % 16 := ⟨_, rfl⟩
          have hq1 : (x : Int) / 16 = (q : Int) := by omega
          have hm1 : (x : Int) % 16 = (m : Int) := by omega
          have hm15 : m ≤ 15 := by omega
          have hq15 : q ≤ 15 := by omega
          have hbadiff : badSym x k ↔ (10 < m ∨ (m = 0 ∧ x ≠ 240) ∨ 64 ≤ k + q) := by unfold badSym; rw [← hm, ← hq]
          have HM := Lib.hid (And.intro hq (And.intro hm hbadiff))
          have HM := Lib.hid (And.intro HM.out.1 HM.out.2.1)
          have hxv : ¬ (x : Int) = 0 := hv0
          clear hq hm
          by_cases hA : 10 < m
          · have hAi : (10 : Int) < (m : Int) := by omega
            have hbad := hbadiff.2 (.inl hA)
            clear hbadiff
            have hO := othersG_form (f := f') (b := b) HR.out.1 hlt rfl hv0 hbad
            rw [HR.out.2.2] at hO
            have HO := Lib.hid hO
            clear hO HR
            go_wp2_with fail
            refine HG.out.mono ?_
            rintro e w1 ⟨rfl, hr1, k1⟩
            dsimp only at hr1 ⊢
            have H1 := Lib.hid (And.intro hr1 (And.intro (HP.out.blk.kept k1 (fun e => HV.out.2.2.2.2.2.2.2 e.symm)) (HP.out.kept.trans k1 (fun _ _ e => .inl e))))
            clear hr1 k1
            go_wp2
            go_ret
            refine ⟨by rw [HO.out]; rfl, ?_, ⟨b, H1.out.2.1, fun e => ?_⟩, H1.out.2.2⟩
            · rw [HO.out]
              exact H1.out.1
            · rw [HO.out] at e
              cases e
          have hAi : ¬ (10 : Int) < (m : Int) := by omega
          by_cases hB : m = 0
          · by_cases hx : x = 240
            · have hmi : (m : Int) = 0 := by omega
              have hxi : (x : Int) = 240 := by omega
              by_cases hC : 64 ≤ k + q
              · have hCi : (64 : Int) ≤ (k : Int) + (q : Int) := by omega
                have hbad := hbadiff.2 (.inr (.inr hC))
                clear hbadiff
                have hO := othersG_form (f := f') (b := b) HR.out.1 hlt rfl hv0 hbad
                rw [HR.out.2.2] at hO
                have HO := Lib.hid hO
                clear hO HR
                go_wp2_with fail
                refine HG.out.mono ?_
                rintro e w1 ⟨rfl, hr1, k1⟩
                dsimp only at hr1 ⊢
                have H1 := Lib.hid (And.intro hr1 (And.intro (HP.out.blk.kept k1 (fun e => HV.out.2.2.2.2.2.2.2 e.symm)) (HP.out.kept.trans k1 (fun _ _ e => .inl e))))
                clear hr1 k1
                go_wp2
                go_ret
                refine ⟨by rw [HO.out]; rfl, ?_, ⟨b, H1.out.2.1, fun e => ?_⟩, H1.out.2.2⟩
                · rw [HO.out]
                  exact H1.out.1
                · rw [HO.out] at e
                  cases e
              · have hCi : ¬ (64 : Int) ≤ (k : Int) + (q : Int) := by omega
                have hbad : ¬ badSym x k := fun h => by have := hbadiff.1 h; omega
                have hmb : ((m : Int) == 0) = true := by simpa using hmi
                have hxb : ((x : Int) != 240) = false := by simpa using hxi
                clear hbadiff hmi hxi hB hx
                skip
                obtain ⟨kq, hkq0⟩ : ∃ kq, kq = k + q := ⟨_, rfl⟩
                have hkq : (k : Int) + (q : Int) = (kq : Int) := by omega
                have hkq1 : (kq : Int) < 64 := by omega
                have hkq2 : kq < 64 := by omega
                obtain ⟨hz1, hz2⟩ := zn_at kq hkq2
                obtain ⟨zq, hzq⟩ : ∃ zq, zq = zn kq := ⟨_, rfl⟩
                rw [← hzq] at hz1 hz2
                have hzqi : (zq : Int) < 64 := by omega
                have HK := Lib.hid (And.intro hkq0 (And.intro hz1 hzq))
                clear hkq0 hz1 hzq
                go_wp2_with fail
                refine HG.out.mono ?_
                rintro e w1 ⟨rfl, hr1, k1⟩
                dsimp only at hr1 ⊢
                have H1 := Lib.hid (And.intro hr1 (And.intro (HP.out.blk.kept k1 (fun e => HV.out.2.2.2.2.2.2.2 e.symm)) (And.intro (HP.out.kept.trans k1 (fun _ _ e => .inl e)) (And.intro (HP.out.tab.kept k1 (fun e => HV.out.2.2.2.2.1 e.symm)) (HP.out.tb.kept k1 (fun b' h1 h2 e => by have := HV.out.2.1; omega))))))
                clear hr1 k1
                have HN := Lib.hid (getNumber_any w1.drew r g l s1 m (H1.out.1.on (on_drew _)) (by omega))
                have hsm := numF_small H1.out.1.fit H1.out.1.ok (k := m) (by omega)
                obtain ⟨N, hN⟩ : ∃ N, N = numF l s1 m := ⟨_, rfl⟩
                rw [← hN] at HN hsm
                have HNN := Lib.hid hN
                clear hN
                obtain ⟨s2, z, E2⟩ := N
                dsimp only at hsm HN
                have K1 := Lib.hid (show w1.drew.cell? ⟨0, kq, none⟩ = some (.int .i64 (zq : Int)) by rw [← HK.out.2.1]; exact H1.out.2.2.2.1 kq hkq2)
                by_cases hE2 : E2 = 0
                · subst hE2
                  have hO := othersG_next (f := f') (b := b) (N := (s2, z, 0)) HR.out.1 (by dsimp only; rw [Int.toNat_natCast, ← HM.out.2]; exact HNN.out) hlt rfl hv0 hbad rfl
                  rw [HR.out.2.2] at hO
                  dsimp only at hO
                  rw [Int.toNat_natCast, ← HM.out.1, ← HK.out.1, ← HK.out.2.2] at hO
                  have HO := Lib.hid hO
                  clear hO
                  go_wp2_with fail
                  go_region_held (fun w' => w'.cell? ⟨0, kq, none⟩ = some (.int .i64 (zq : Int)))
                    (first
                      | exact K1.out
                      | exact K2.out
                      | exact K3.out)
                    (first
                      | (go_at_call 60
                         with_reducible refine HN.out.mono ?_
                         rintro e w2 ⟨rfl, hr2, k2⟩
                         dsimp only at hr2 ⊢
                         have H2 := Lib.hid (And.intro hr2 (And.intro ((H1.out.2.1.on (on_drew _)).kept k2 (fun e => HV.out.2.2.2.2.2.2.2 e.symm)) (And.intro (H1.out.2.2.1.drew.trans k2 (fun _ _ e => .inl e)) (And.intro ((H1.out.2.2.2.1.on (on_drew _)).kept k2 (fun e => HV.out.2.2.2.2.1 e.symm)) ((H1.out.2.2.2.2.on (on_drew _)).kept k2 (fun b' h1 h2 e => by have := HV.out.2.1; omega))))))
                         have g5 := H2.out.2.1.cell hz2
                         have f5 := H2.out.2.1.box.free zq
                         have K2 := Lib.hid (show w2.cell? ⟨0, kq, none⟩ = some (.int .i64 (zq : Int)) by rw [← HK.out.2.1]; exact H2.out.2.2.2.1 kq hkq2)
                         have K3 := Lib.hid (show (w2.setCell ⟨gb, zq, none⟩ (.int .i64 z)).cell? ⟨0, kq, none⟩ = some (.int .i64 (zq : Int)) by rw [← HK.out.2.1]; exact (H2.out.2.2.2.1.kept ((Kept.refl (fun i => i = gb) _).setCell (p := ⟨gb, zq, none⟩) (fun _ => rfl) _) (fun e => HV.out.2.2.2.2.2.1 e.symm)) kq hkq2)
                         clear hr2 k2))
                  all_goals
                    (have kk : Kept (fun i => i = gb) w2 (w2.setCell ⟨gb, zq, none⟩ (.int .i64 z)) := (Kept.refl (fun i => i = gb) _).setCell (p := ⟨gb, zq, none⟩) (fun _ => rfl) _
                     have HF := Lib.hid (GO.mk (w := w) (lo := lo) (hi := hi) (t := t) (B := B) (V := V) (O := O) (k := kq + 1) (f := f') (H2.out.1.kept kk (fun e => HV.out.2.2.2.2.2.2.2 e) (fun e => HV.out.2.2.2.2.2.2.1 e)) (H2.out.2.1.put zq z) (H2.out.2.2.1.trans kk (fun _ _ e => .inr e)) (H2.out.2.2.2.1.kept kk (fun e => HV.out.2.2.2.2.2.1 e.symm)) (H2.out.2.2.2.2.kept kk (fun b' h1 h2 e => by have := HV.out.2.2.1; omega)) HO.out.symm (by have := HP.out.fuel; have := HR.out.2.1; have := HK.out.1; omega))
                     clear kk g5 f5
                     go_wp2
                     go_roundw
                     case rel => exact ⟨kq + 1, f', s2, _, by omega, by go_num, HF.out⟩
                     case measure => simp [intOf]; omega)
                · have hO := othersG_num (f := f') (b := b) (N := (s2, z, E2)) HR.out.1 (by dsimp only; rw [Int.toNat_natCast, ← HM.out.2]; exact HNN.out) hlt rfl hv0 hbad hE2
                  rw [HR.out.2.2] at hO
                  dsimp only at hO
                  have HO := Lib.hid hO
                  have e0 : (E2 == 0) = false := by simpa using hE2
                  have e1 : (E2 != 0) = true := by simpa using hE2
                  clear hO
                  go_wp2_with fail
                  go_region_held (fun w' => w'.cell? ⟨0, kq, none⟩ = some (.int .i64 (zq : Int)))
                    (first
                      | exact K1.out
                      | exact K2.out
                      | exact K3.out)
                    (first
                      | (go_at_call 60
                         with_reducible refine HN.out.mono ?_
                         rintro e w2 ⟨rfl, hr2, k2⟩
                         dsimp only at hr2 ⊢
                         have H2 := Lib.hid (And.intro hr2 (And.intro ((H1.out.2.1.on (on_drew _)).kept k2 (fun e => HV.out.2.2.2.2.2.2.2 e.symm)) (And.intro (H1.out.2.2.1.drew.trans k2 (fun _ _ e => .inl e)) ((H1.out.2.2.2.1.on (on_drew _)).kept k2 (fun e => HV.out.2.2.2.2.1 e.symm)))))
                         have g5 := H2.out.2.1.cell hz2
                         have f5 := H2.out.2.1.box.free zq
                         have K2 := Lib.hid (show w2.cell? ⟨0, kq, none⟩ = some (.int .i64 (zq : Int)) by rw [← HK.out.2.1]; exact H2.out.2.2.2 kq hkq2)
                         have K3 := Lib.hid (show (w2.setCell ⟨gb, zq, none⟩ (.int .i64 z)).cell? ⟨0, kq, none⟩ = some (.int .i64 (zq : Int)) by rw [← HK.out.2.1]; exact (H2.out.2.2.2.kept ((Kept.refl (fun i => i = gb) _).setCell (p := ⟨gb, zq, none⟩) (fun _ => rfl) _) (fun e => HV.out.2.2.2.2.2.1 e.symm)) kq hkq2)
                         clear hr2 k2))
                  all_goals
                    (have kk : Kept (fun i => i = gb) w2 (w2.setCell ⟨gb, zq, none⟩ (.int .i64 z)) := (Kept.refl (fun i => i = gb) _).setCell (p := ⟨gb, zq, none⟩) (fun _ => rfl) _
                     have HF := Lib.hid (And.intro (H2.out.1.kept kk (fun e => HV.out.2.2.2.2.2.2.2 e) (fun e => HV.out.2.2.2.2.2.2.1 e)) (And.intro (H2.out.2.1.put zq z) (H2.out.2.2.1.trans kk (fun _ _ e => .inr e))))
                     clear kk g5 f5
                     go_wp2
                     go_ret
                     refine ⟨by rw [HO.out]; rfl, ?_, ⟨_, HF.out.2.1, fun e => ?_⟩, HF.out.2.2⟩
                     · rw [HO.out]
                       exact HF.out.1
                     · rw [HO.out] at e
                       exact absurd e hE2)
            · have hmi : (m : Int) = 0 := by omega
              have hxi : ¬ (x : Int) = 240 := by omega
              have hbad := hbadiff.2 (.inr (.inl ⟨hB, hx⟩))
              clear hbadiff
              have hO := othersG_form (f := f') (b := b) HR.out.1 hlt rfl hv0 hbad
              rw [HR.out.2.2] at hO
              have HO := Lib.hid hO
              clear hO HR
              go_wp2_with fail
              refine HG.out.mono ?_
              rintro e w1 ⟨rfl, hr1, k1⟩
              dsimp only at hr1 ⊢
              have H1 := Lib.hid (And.intro hr1 (And.intro (HP.out.blk.kept k1 (fun e => HV.out.2.2.2.2.2.2.2 e.symm)) (HP.out.kept.trans k1 (fun _ _ e => .inl e))))
              clear hr1 k1
              go_wp2
              go_ret
              refine ⟨by rw [HO.out]; rfl, ?_, ⟨b, H1.out.2.1, fun e => ?_⟩, H1.out.2.2⟩
              · rw [HO.out]
                exact H1.out.1
              · rw [HO.out] at e
                cases e
          · have hmi : ¬ (m : Int) = 0 := by omega
            by_cases hC : 64 ≤ k + q
            · have hCi : (64 : Int) ≤ (k : Int) + (q : Int) := by omega
              have hbad := hbadiff.2 (.inr (.inr hC))
              clear hbadiff
              have hO := othersG_form (f := f') (b := b) HR.out.1 hlt rfl hv0 hbad
              rw [HR.out.2.2] at hO
              have HO := Lib.hid hO
              clear hO HR
              go_wp2_with fail
              refine HG.out.mono ?_
              rintro e w1 ⟨rfl, hr1, k1⟩
              dsimp only at hr1 ⊢
              have H1 := Lib.hid (And.intro hr1 (And.intro (HP.out.blk.kept k1 (fun e => HV.out.2.2.2.2.2.2.2 e.symm)) (HP.out.kept.trans k1 (fun _ _ e => .inl e))))
              clear hr1 k1
              go_wp2
              go_ret
              refine ⟨by rw [HO.out]; rfl, ?_, ⟨b, H1.out.2.1, fun e => ?_⟩, H1.out.2.2⟩
              · rw [HO.out]
                exact H1.out.1
              · rw [HO.out] at e
                cases e
            · have hCi : ¬ (64 : Int) ≤ (k : Int) + (q : Int) := by omega
              have hbad : ¬ badSym x k := fun h => by have := hbadiff.1 h; omega
              clear hbadiff
              skip
              obtain ⟨kq, hkq0⟩ : ∃ kq, kq = k + q := ⟨_, rfl⟩
              have hkq : (k : Int) + (q : Int) = (kq : Int) := by omega
              have hkq1 : (kq : Int) < 64 := by omega
              have hkq2 : kq < 64 := by omega
              obtain ⟨hz1, hz2⟩ := zn_at kq hkq2
              obtain ⟨zq, hzq⟩ : ∃ zq, zq = zn kq := ⟨_, rfl⟩
              rw [← hzq] at hz1 hz2
              have hzqi : (zq : Int) < 64 := by omega
              have HK := Lib.hid (And.intro hkq0 (And.intro hz1 hzq))
              clear hkq0 hz1 hzq
              go_wp2_with fail
              refine HG.out.mono ?_
              rintro e w1 ⟨rfl, hr1, k1⟩
              dsimp only at hr1 ⊢
              have H1 := Lib.hid (And.intro hr1 (And.intro (HP.out.blk.kept k1 (fun e => HV.out.2.2.2.2.2.2.2 e.symm)) (And.intro (HP.out.kept.trans k1 (fun _ _ e => .inl e)) (And.intro (HP.out.tab.kept k1 (fun e => HV.out.2.2.2.2.1 e.symm)) (HP.out.tb.kept k1 (fun b' h1 h2 e => by have := HV.out.2.1; omega))))))
              clear hr1 k1
              have HN := Lib.hid (getNumber_any w1.drew r g l s1 m (H1.out.1.on (on_drew _)) (by omega))
              have hsm := numF_small H1.out.1.fit H1.out.1.ok (k := m) (by omega)
              obtain ⟨N, hN⟩ : ∃ N, N = numF l s1 m := ⟨_, rfl⟩
              rw [← hN] at HN hsm
              have HNN := Lib.hid hN
              clear hN
              obtain ⟨s2, z, E2⟩ := N
              dsimp only at hsm HN
              have K1 := Lib.hid (show w1.drew.cell? ⟨0, kq, none⟩ = some (.int .i64 (zq : Int)) by rw [← HK.out.2.1]; exact H1.out.2.2.2.1 kq hkq2)
              by_cases hE2 : E2 = 0
              · subst hE2
                have hO := othersG_next (f := f') (b := b) (N := (s2, z, 0)) HR.out.1 (by dsimp only; rw [Int.toNat_natCast, ← HM.out.2]; exact HNN.out) hlt rfl hv0 hbad rfl
                rw [HR.out.2.2] at hO
                dsimp only at hO
                rw [Int.toNat_natCast, ← HM.out.1, ← HK.out.1, ← HK.out.2.2] at hO
                have HO := Lib.hid hO
                clear hO
                go_wp2_with fail
                go_region_held (fun w' => w'.cell? ⟨0, kq, none⟩ = some (.int .i64 (zq : Int)))
                  (first
                    | exact K1.out
                    | exact K2.out
                    | exact K3.out)
                  (first
                    | (go_at_call 60
                       with_reducible refine HN.out.mono ?_
                       rintro e w2 ⟨rfl, hr2, k2⟩
                       dsimp only at hr2 ⊢
                       have H2 := Lib.hid (And.intro hr2 (And.intro ((H1.out.2.1.on (on_drew _)).kept k2 (fun e => HV.out.2.2.2.2.2.2.2 e.symm)) (And.intro (H1.out.2.2.1.drew.trans k2 (fun _ _ e => .inl e)) (And.intro ((H1.out.2.2.2.1.on (on_drew _)).kept k2 (fun e => HV.out.2.2.2.2.1 e.symm)) ((H1.out.2.2.2.2.on (on_drew _)).kept k2 (fun b' h1 h2 e => by have := HV.out.2.1; omega))))))
                       have g5 := H2.out.2.1.cell hz2
                       have f5 := H2.out.2.1.box.free zq
                       have K2 := Lib.hid (show w2.cell? ⟨0, kq, none⟩ = some (.int .i64 (zq : Int)) by rw [← HK.out.2.1]; exact H2.out.2.2.2.1 kq hkq2)
                       have K3 := Lib.hid (show (w2.setCell ⟨gb, zq, none⟩ (.int .i64 z)).cell? ⟨0, kq, none⟩ = some (.int .i64 (zq : Int)) by rw [← HK.out.2.1]; exact (H2.out.2.2.2.1.kept ((Kept.refl (fun i => i = gb) _).setCell (p := ⟨gb, zq, none⟩) (fun _ => rfl) _) (fun e => HV.out.2.2.2.2.2.1 e.symm)) kq hkq2)
                       clear hr2 k2))
                all_goals
                  (have kk : Kept (fun i => i = gb) w2 (w2.setCell ⟨gb, zq, none⟩ (.int .i64 z)) := (Kept.refl (fun i => i = gb) _).setCell (p := ⟨gb, zq, none⟩) (fun _ => rfl) _
                   have HF := Lib.hid (GO.mk (w := w) (lo := lo) (hi := hi) (t := t) (B := B) (V := V) (O := O) (k := kq + 1) (f := f') (H2.out.1.kept kk (fun e => HV.out.2.2.2.2.2.2.2 e) (fun e => HV.out.2.2.2.2.2.2.1 e)) (H2.out.2.1.put zq z) (H2.out.2.2.1.trans kk (fun _ _ e => .inr e)) (H2.out.2.2.2.1.kept kk (fun e => HV.out.2.2.2.2.2.1 e.symm)) (H2.out.2.2.2.2.kept kk (fun b' h1 h2 e => by have := HV.out.2.2.1; omega)) HO.out.symm (by have := HP.out.fuel; have := HR.out.2.1; have := HK.out.1; omega))
                   clear kk g5 f5
                   go_wp2
                   go_roundw
                   case rel => exact ⟨kq + 1, f', s2, _, by omega, by go_num, HF.out⟩
                   case measure => simp [intOf]; omega)
              · have hO := othersG_num (f := f') (b := b) (N := (s2, z, E2)) HR.out.1 (by dsimp only; rw [Int.toNat_natCast, ← HM.out.2]; exact HNN.out) hlt rfl hv0 hbad hE2
                rw [HR.out.2.2] at hO
                dsimp only at hO
                have HO := Lib.hid hO
                have e0 : (E2 == 0) = false := by simpa using hE2
                have e1 : (E2 != 0) = true := by simpa using hE2
                clear hO
                go_wp2_with fail
                go_region_held (fun w' => w'.cell? ⟨0, kq, none⟩ = some (.int .i64 (zq : Int)))
                  (first
                    | exact K1.out
                    | exact K2.out
                    | exact K3.out)
                  (first
                    | (go_at_call 60
                       with_reducible refine HN.out.mono ?_
                       rintro e w2 ⟨rfl, hr2, k2⟩
                       dsimp only at hr2 ⊢
                       have H2 := Lib.hid (And.intro hr2 (And.intro ((H1.out.2.1.on (on_drew _)).kept k2 (fun e => HV.out.2.2.2.2.2.2.2 e.symm)) (And.intro (H1.out.2.2.1.drew.trans k2 (fun _ _ e => .inl e)) ((H1.out.2.2.2.1.on (on_drew _)).kept k2 (fun e => HV.out.2.2.2.2.1 e.symm)))))
                       have g5 := H2.out.2.1.cell hz2
                       have f5 := H2.out.2.1.box.free zq
                       have K2 := Lib.hid (show w2.cell? ⟨0, kq, none⟩ = some (.int .i64 (zq : Int)) by rw [← HK.out.2.1]; exact H2.out.2.2.2 kq hkq2)
                       have K3 := Lib.hid (show (w2.setCell ⟨gb, zq, none⟩ (.int .i64 z)).cell? ⟨0, kq, none⟩ = some (.int .i64 (zq : Int)) by rw [← HK.out.2.1]; exact (H2.out.2.2.2.kept ((Kept.refl (fun i => i = gb) _).setCell (p := ⟨gb, zq, none⟩) (fun _ => rfl) _) (fun e => HV.out.2.2.2.2.2.1 e.symm)) kq hkq2)
                       clear hr2 k2))
                all_goals
                  (have kk : Kept (fun i => i = gb) w2 (w2.setCell ⟨gb, zq, none⟩ (.int .i64 z)) := (Kept.refl (fun i => i = gb) _).setCell (p := ⟨gb, zq, none⟩) (fun _ => rfl) _
                   have HF := Lib.hid (And.intro (H2.out.1.kept kk (fun e => HV.out.2.2.2.2.2.2.2 e) (fun e => HV.out.2.2.2.2.2.2.1 e)) (And.intro (H2.out.2.1.put zq z) (H2.out.2.2.1.trans kk (fun _ _ e => .inr e))))
                   clear kk g5 f5
                   go_wp2
                   go_ret
                   refine ⟨by rw [HO.out]; rfl, ?_, ⟨_, HF.out.2.1, fun e => ?_⟩, HF.out.2.2⟩
                   · rw [HO.out]
                     exact HF.out.1
                   · rw [HO.out] at e
                     exact absurd e hE2)
      · have hO := othersG_err (f := f') (b := b) HR.out.1 hlt h0
        rw [HR.out.2.2] at hO
        obtain ⟨s1, v, E⟩ := R
        dsimp only at h0 hval hO HG
        have HO := Lib.hid hO
        have e0 : (E == 0) = false := by simpa using h0
        have e1 : (E != 0) = true := by simpa using h0
        clear hO HR
        go_wp2_with fail
        refine HG.out.mono ?_
        rintro e w1 ⟨rfl, hr1, k1⟩
        dsimp only at hr1 ⊢
        have H1 := Lib.hid (And.intro hr1 (And.intro (HP.out.blk.kept k1 (fun e => HV.out.2.2.2.2.2.2.2 e.symm)) (HP.out.kept.trans k1 (fun _ _ e => .inl e))))
        clear hr1 k1
        go_wp2
        go_ret
        refine ⟨by rw [HO.out]; rfl, ?_, ⟨b, H1.out.2.1, fun e => ?_⟩, H1.out.2.2⟩
        · rw [HO.out]
          exact H1.out.1
        · rw [HO.out] at e
          exact absurd e h0
    · have hres := HP.out.res
      rw [othersG_end (by omega)] at hres
      have HO := Lib.hid hres
      have hki : ¬ (k : Int) < 64 := by omega
      clear hres
      go_wp2
      go_ret
      refine ⟨by rw [← HO.out]; rfl, ?_, ⟨b, HP.out.blk, fun _ => by rw [← HO.out]⟩, HP.out.kept⟩
      rw [← HO.out]
      exact HP.out.rd
end Go.Proofs.YthfpdebpepbejaaDoor
