/-
  Put.
-/
import Derived.Test.YtnakfdaneejcfaaPutM
namespace Go.Proofs.Ytnakfdaneejcfaa
open Go.RowKit

def PutOk (l : List Fd) (big : Bool) (at_ next : Int) : Prop := IsOff big at_ ∧ IsLink big next ∧ at_ + (sizeN l big : Nat) < limitN big
def PutY (l : List Fd) (big : Bool) (at_ next : Int) (w : World) (r : Ending) (w' : World) : Prop :=
  ((¬ DirOk l big ∧ r = .returned (.tuple #[.slice none 0 0, .int .i64 1])) ∨ (DirOk l big ∧ ¬ PutOk l big at_ next ∧ r = .returned (.tuple #[.slice none 0 0, .int .i64 2])) ∨
    (DirOk l big ∧ PutOk l big at_ next ∧ ∃ A c, r = .returned (.tuple #[.slice A (sizeN l big) c, .int .i64 0]) ∧ Sl w' (fun b => w.heap.size ≤ b) A (sizeN l big) c (dirB l big at_ next))) ∧ Below w.heap.size w w'
set_option maxHeartbeats 6400000 in
set_option maxRecDepth 20000 in
theorem putDir_any (A : Option Addr) (n c : Nat) (l : List Fd) (big : Bool) (at_ next : Int) (w : World) (hx : Fl w A n c l) (hnx : next ≤ 9223372036854775807) : Calls Try.prog 15 #[.slice A n c, .bool big, .int .i64 at_, .int .i64 next] w (PutY l big at_ next w) := by
  have hmax := hx.max
  have hcap := hx.cap
  have hlen := hx.len
  unfold maxLen at hmax
  have HSz := Lib.hid (size_any A n c l big w hx)
  by_cases hd : DirOk l big
  · have hS6 := sizeN_le hd
    have hn : n ≤ 32 := by have := hd.1.2; omega
    have HSy := Lib.hid (HSz.out.mono (R' := fun r w' => r = .returned (.tuple #[.int .i64 (sizeN l big : Nat), .int .i64 0]) ∧ Below w.heap.size w w') (fun r w' h => ⟨(h.1.resolve_left (fun h => h.1 hd)).2, h.2⟩))
    have HL := Lib.hid (fun w' => layoutOf_any big w')
    have HF := Lib.hid (fun w' => fixed_any big n (by omega) w')
    have HO := Lib.hid (fun w' => isOffset_any big at_ w')
    have HK := Lib.hid (fun w' => isLink_any big next w')
    have HEn := Lib.hid (fun (t k : Int) (fA : Option Addr) (fn fc : Nat) (w' : World) (h1 : t ≤ 9223372036854775807) (h2 : k ≤ 9223372036854775807) (h3 : fn ≤ 100000) => entryStart_any t k fA fn fc big w' h1 h2 h3)
    unfold layV at HL HF HO HK HEn
    obtain ⟨S, hS⟩ : ∃ S, sizeN l big = S := ⟨_, rfl⟩
    obtain ⟨F, hF⟩ : ∃ F, fixedN big n = F := ⟨_, rfl⟩
    have hF7 : F ≤ 700 := by rw [← hF]; exact fixedN_le big hn
    obtain ⟨st, hst⟩ : ∃ st, startL big = st := ⟨_, rfl⟩
    obtain ⟨cn, hcn⟩ : ∃ cn, countN big = cn := ⟨_, rfl⟩
    obtain ⟨wd, hwd⟩ : ∃ wd, wordN big = wd := ⟨_, rfl⟩
    obtain ⟨lm, hlm⟩ : ∃ lm, limitN big = lm := ⟨_, rfl⟩
    have hlm2 : lm ≤ 1099511627776 := by rw [← hlm]; unfold limitN; split <;> omega
    have hwd8 : wd ≤ 8 := by rw [← hwd]; unfold wordN; split <;> omega
    have hcn8 : cn ≤ 8 := by rw [← hcn]; unfold countN; split <;> omega
    rw [hS] at HSy hS6
    rw [hF] at HF
    have Hww : Hid (width (wd : Int) = wd) := Lib.hid (by rw [← hwd]; exact width_word big)
    have Hwc : Hid (width (cn : Int) = cn) := Lib.hid (by rw [← hcn]; cases big <;> rfl)
    rw [hst, hcn, hwd, hlm] at HL HF HO HK HEn
    have H0 := Lib.hid (And.intro hx (And.intro hlen (And.intro hd (And.intro hF (And.intro hS (And.intro hcn (And.intro hwd hlm)))))))
    clear hx hlen hd hF hS hst hcn hwd hlm HSz
    by_cases ho : IsOff big at_
    · have hod : decide (IsOff big at_) = true := decide_eq_true ho
      rw [hod] at HO
      have hat8 : 8 ≤ at_ ∧ at_ < lm := ⟨ho.2.1, by have := ho.2.2; rw [H0.out.2.2.2.2.2.2.2] at this; exact this⟩
      have HOo := Lib.hid ho
      clear hod ho
      by_cases hk : IsLink big next
      · have hkd : decide (IsLink big next) = true := decide_eq_true hk
        rw [hkd] at HK
        have HKk := Lib.hid hk
        clear hkd hk
        by_cases hlt : at_ + (S : Int) < lm
        · go_enter Try.func15, Try.ntmps15
          go_wp2_with (first
            | (go_at_call 18
               refine HSy.out.mono ?_
               rintro e w1 ⟨rfl, b1⟩
               have H1 := Lib.hid b1
               clear b1)
            | (go_at_call 22
               refine (HL.out _).mono ?_
               rintro e w2 ⟨rfl, b2⟩
               obtain ⟨w3, hw3⟩ : ∃ w3, w2.alloc (.cells #[.string ⟨st⟩, .int .i64 (cn : Int), .int .i64 (wd : Int), .int .i64 lm] 51) = w3 := ⟨_, rfl⟩
               have b3 : Below w2.heap.size w2 w3 := by rw [← hw3]; exact on_alloc _ _
               have bx3 : Box w3 w2.heap.size 51 #[.string ⟨st⟩, .int .i64 (cn : Int), .int .i64 (wd : Int), .int .i64 lm] := by rw [← hw3]; exact Box.made _ _ _
               have i0 : w3.cell? ⟨w2.heap.size, 0, none⟩ = some (.string ⟨st⟩) := bx3.cell 0
               have i1 : w3.cell? ⟨w2.heap.size, 1, none⟩ = some (.int .i64 (cn : Int)) := bx3.cell 1
               have i2 : w3.cell? ⟨w2.heap.size, 2, none⟩ = some (.int .i64 (wd : Int)) := bx3.cell 2
               have i3 : w3.cell? ⟨w2.heap.size, 3, none⟩ = some (.int .i64 lm) := bx3.cell 3
               have H3 := Lib.hid (And.intro (on_trans (on_trans H1.out b2) b3) bx3)
               clear b2 b3 bx3)
            | (go_at_call 32
               refine (HO.out _).mono ?_
               rintro e w4 ⟨rfl, b4⟩
               have bx4 := H3.out.2.on b4
               have k0 : w4.cell? ⟨w2.heap.size, 0, none⟩ = some (.string ⟨st⟩) := bx4.cell 0
               have k1 : w4.cell? ⟨w2.heap.size, 1, none⟩ = some (.int .i64 (cn : Int)) := bx4.cell 1
               have k2 : w4.cell? ⟨w2.heap.size, 2, none⟩ = some (.int .i64 (wd : Int)) := bx4.cell 2
               have k3 : w4.cell? ⟨w2.heap.size, 3, none⟩ = some (.int .i64 lm) := bx4.cell 3
               have H4 := Lib.hid (And.intro (on_trans H3.out.1 b4) bx4)
               clear b4 bx4)
            | (go_at_call 23
               refine (HK.out _).mono ?_
               rintro e w5 ⟨rfl, b5⟩
               have bx5 := H4.out.2.on b5
               have m0 : w5.cell? ⟨w2.heap.size, 0, none⟩ = some (.string ⟨st⟩) := bx5.cell 0
               have m1 : w5.cell? ⟨w2.heap.size, 1, none⟩ = some (.int .i64 (cn : Int)) := bx5.cell 1
               have m2 : w5.cell? ⟨w2.heap.size, 2, none⟩ = some (.int .i64 (wd : Int)) := bx5.cell 2
               have m3 : w5.cell? ⟨w2.heap.size, 3, none⟩ = some (.int .i64 lm) := bx5.cell 3
               have H5 := Lib.hid (And.intro (on_trans H4.out.1 b5) bx5)
               clear b5 bx5))
          have hP := put_own w5 (fun _ => True) none 0 0 [] (n : Int) (cn : Int) false (sl_nil _ _) (by omega) (by omega)
          rw [Hwc.out, Nat.zero_add, List.nil_append] at hP
          refine hP.mono ?_
          rintro e w6 hob
          obtain ⟨g6, rfl, hR6, b6⟩ := (show Rw w5.heap.size w5 (.slice none 0 0) (.slice none 0 0) 0 0 [] [] from ⟨World.ownsRow_nil _ _ _ _, World.ownsRow_nil _ _ _ _, (fun z hz => by cases hz), (fun z hz => by cases hz), (fun g h => by simp [Value.ownBlock] at h)⟩).new1 (Nat.le_refl _) hob
          have bx6 := H5.out.2.on b6
          have n0 : w6.cell? ⟨w2.heap.size, 0, none⟩ = some (.string ⟨st⟩) := bx6.cell 0
          have n1 : w6.cell? ⟨w2.heap.size, 1, none⟩ = some (.int .i64 (cn : Int)) := bx6.cell 1
          have n2 : w6.cell? ⟨w2.heap.size, 2, none⟩ = some (.int .i64 (wd : Int)) := bx6.cell 2
          have n3 : w6.cell? ⟨w2.heap.size, 3, none⟩ = some (.int .i64 lm) := bx6.cell 3
          have H6 := Lib.hid (And.intro hR6 (And.intro b6 bx6))
          clear hP hob hR6 b6 bx6
          go_wp2_with (go_at_call 33
                       refine (HF.out _).mono ?_
                       rintro e w7 ⟨rfl, b7⟩
                       have H7 := Lib.hid (And.intro (H6.out.1.on b7) (And.intro (on_trans H6.out.2.1 b7) (H6.out.2.2.on b7)))
                       clear b7)
          obtain ⟨src, hsrc⟩ : ∃ src, at_ + (F : Int) = src := ⟨_, rfl⟩
          have hsrc2 : 0 ≤ src ∧ src ≤ 1099511628776 := by omega
          obtain ⟨en, hen⟩ : ∃ en, entryN big = en := ⟨_, rfl⟩
          have hen2 : en = 4 + wd + wd := by rw [← hen, ← H0.out.2.2.2.2.2.2.1]; cases big <;> rfl
          obtain ⟨B, hB⟩ : ∃ B, w5.heap.size = B := ⟨_, rfl⟩
          obtain ⟨hdr, hhdr⟩ : ∃ hdr, told (max (n : Int) 0) cn false = hdr := ⟨_, rfl⟩
          obtain ⟨gy, hgy⟩ : ∃ gy, w2.heap.size = gy := ⟨_, rfl⟩
          have hgyB : gy < B := by rw [← hgy, ← hB]; exact H5.out.2.lt
          have hBy : B ≤ w7.heap.size := by rw [← hB]; exact H7.out.2.1.size
          rw [hhdr, hB, hgy] at H7
          have HC := Lib.hid (And.intro hen (And.intro hhdr hsrc))
          clear hen hhdr
          try rw [hsrc]
          try rw [hgy]
          clear hsrc
          go_loopw [13, 15, 17, 18, 61] (fun v13 v15 _ _ i wr => ∃ j : Nat, j ≤ n ∧ i = .int .i64 (j : Int) ∧ Rw B wr v13 v15 (cn + j * en) (sumB (l.take j) big) (hdr ++ outB l big src j) (behB l big j) ∧ Below B w7 wr) (fun _ _ _ _ i _ => n - (intOf i).toNat)
          case atStart => exact ⟨0, by omega, rfl, by simpa [outB, behB, sumB] using H7.out.1, Below.refl _ _⟩
          case round =>
            obtain ⟨j, hj, rfl, hrw, hbw⟩ := hrel
            obtain ⟨A13, c13, hv13, hx13⟩ := sl_of_own hrw.r1 hrw.f1
            obtain ⟨A15, c15, hv15, hx15⟩ := sl_of_own hrw.r2 hrw.f2
            subst hv13 hv15
            have hc13 := hx13.max
            have hc15 := hx15.max
            unfold maxLen at hc13 hc15
            have hsz := sumB_le H0.out.2.2.1 j (by rw [H0.out.2.1]; exact hj)
            obtain ⟨n15, hn15⟩ : ∃ n15, sumB (l.take j) big = n15 := ⟨_, rfl⟩
            obtain ⟨n13, hn13⟩ : ∃ n13, cn + j * en = n13 := ⟨_, rfl⟩
            have hn13b : n13 ≤ 1000 := by
              have := Nat.mul_le_mul (show j ≤ 32 by omega) (show en ≤ 20 by omega)
              omega
            rw [hn15] at hsz hrw hx15
            rw [hn13] at hrw hx13
            have hbxy := hbw
            have HQ := Lib.hid (And.intro hrw (And.intro hbw (And.intro hn13 hn15)))
            have hBr : B ≤ wr.heap.size := Nat.le_trans hBy hbw.size
            have hgyr : gy < wr.heap.size := by omega
            have HY := Lib.hid (show Box wr gy 51 #[.string ⟨st⟩, .int .i64 (cn : Int), .int .i64 (wd : Int), .int .i64 lm] from (hbw.block gy hgyB).trans H7.out.2.2)
            rw [hn15, hn13]
            have hb5 : Below w5.heap.size w5 wr := by rw [hB]; exact H7.out.2.1.trans hbw
            have HFl := Lib.hid (And.intro (H0.out.1.on (on_trans H5.out.1 hb5)) (on_trans H5.out.1 hb5))
            clear hb5
            clear hrw hbw hn13 hn15 hx13 hx15 hbxy
            by_cases hjn : j < n
            · obtain ⟨b, off, rfl, hbs, d0, d1, d2, hil⟩ := HFl.out.1.at_ j hjn
              obtain ⟨t, k, fA, fn, fc, fx, hf⟩ : ∃ t k fA fn fc fx, l.getD j fd0 = ⟨t, k, fA, fn, fc, fx⟩ := ⟨_, _, _, _, _, _, rfl⟩
              have hjl : j < l.length := by rw [H0.out.2.1]; exact hjn
              have hok := (H0.out.2.2.1.2 j hjl).1
              have hbe := sumB_more l big j hjl
              rw [hf] at d0 d1 d2 hok hil hbe
              simp only at d0 d1 d2 hil
              have hfl : fx.length = fn := hil.len
              have hf2 : fn ≤ 2048 := by have h9 : fx.length ≤ 2048 := hok.2.2.2.2.1; omega
              have ht64 : t ≤ 9223372036854775807 := by have h9 : t ≤ 65535 := hok.2.2.1; omega
              have hk64 : k ≤ 9223372036854775807 := by
                have h9 : tyN k big ≠ 0 := hok.1
                unfold tyN at h9
                split at h9 <;> (try split at h9) <;> (try split at h9) <;> (try split at h9) <;> omega
              have hv64 : ∀ v ∈ fx, v ≤ 9223372036854775807 := fun v hv => by
                have h9 : v ≤ topN (tyN k big) := (hok.2.2.2.2.2 v hv).2
                unfold topN at h9
                split at h9 <;> (try split at h9) <;> (try split at h9) <;> omega
              obtain ⟨q, hq⟩ : ∃ q, tyN k big = q := ⟨_, rfl⟩
              obtain ⟨m, hm⟩ : ∃ m, fn * q = m := ⟨_, rfl⟩
              have hq8 : q ≤ 8 := by rw [← hq]; exact tyN_le k big
              have hm2 : m ≤ 16384 := by rw [← hm]; exact Nat.le_trans (Nat.mul_le_mul hf2 hq8) (by decide)
              have hmN : mN ⟨t, k, fA, fn, fc, fx⟩ big = m := by unfold mN; simp only; rw [hfl, hq, hm]
              have hout : outB l big src (j + 1) = outB l big src j ++ (entB t k fn big ++ (if wd < m then told (max (src + (n15 : Nat)) 0) wd false else padL (valB fx q) wd)) := by
                rw [outB, hf]; unfold outN; rw [hmN]; simp only; rw [hfl, H0.out.2.2.2.2.2.2.1, HQ.out.2.2.2, hq]
              have hbeh : behB l big (j + 1) = behB l big j ++ (if wd < m then padL (valB fx q) (evenN m) else []) := by
                rw [behB, hf]; unfold behL; rw [hmN]; simp only; rw [H0.out.2.2.2.2.2.2.1, hq]
              have hsm : sumB (l.take (j + 1)) big = n15 + (if wd < m then evenN m else 0) := by
                rw [hbe, HQ.out.2.2.2]; unfold behN; simp only; rw [hfl, hq, hm, H0.out.2.2.2.2.2.2.1]
              obtain ⟨wa, hwa⟩ : ∃ wa, wr.alloc (.cells #[.int .i64 t, .int .i64 k, .slice fA fn fc] 48) = wa := ⟨_, rfl⟩
              have ba : Below wr.heap.size wr wa := by rw [← hwa]; exact on_alloc _ _
              have hza : wa.heap.size = wr.heap.size + 1 := by rw [← hwa]; simp
              have bxa : Box wa wr.heap.size 48 #[.int .i64 t, .int .i64 k, .slice fA fn fc] := by rw [← hwa]; exact Box.made _ _ _
              have c0 : wa.cell? ⟨wr.heap.size, 0, none⟩ = some (.int .i64 t) := bxa.cell 0
              have c1 : wa.cell? ⟨wr.heap.size, 1, none⟩ = some (.int .i64 k) := bxa.cell 1
              have c2 : wa.cell? ⟨wr.heap.size, 2, none⟩ = some (.slice fA fn fc) := bxa.cell 2
              have HV := Lib.hid (valuesBytes_any t k fA fn fc fx big wa (hil.on ba) (by omega) hv64)
              rw [hq, hm] at HV
              have HE := Lib.hid (fun w' => HEn.out t k fA fn fc w' ht64 hk64 (by omega))
              unfold fldV at HV HE
              have HA := Lib.hid (And.intro (HQ.out.1.on ba) (And.intro bxa (And.intro (HY.out.on ba) (And.intro hza ba))))
              have HM := Lib.hid (And.intro hout (And.intro hbeh (And.intro hsm hfl)))
              clear hf hok hbe hil hfl hv64 hq hm hmN hout hbeh hsm ba hza bxa hjl
              have hj32 : j * 16385 ≤ 524320 := by omega
              go_wp2_with (first
                | (go_at_call 34
                   refine HV.out.mono ?_
                   rintro e wb ⟨Av, cv, rfl, hxv, bb⟩
                   have hcv := hxv.max
                   have hcv2 := hxv.cap
                   unfold maxLen at hcv
                   have HVx := Lib.hid (And.intro hxv bb)
                   have bxb := HA.out.2.1.on bb
                   have byb := HA.out.2.2.1.on bb
                   have f0 : wb.cell? ⟨wr.heap.size, 0, none⟩ = some (.int .i64 t) := bxb.cell 0
                   have f1 : wb.cell? ⟨wr.heap.size, 1, none⟩ = some (.int .i64 k) := bxb.cell 1
                   have f2 : wb.cell? ⟨wr.heap.size, 2, none⟩ = some (.slice fA fn fc) := bxb.cell 2
                   have y0 : wb.cell? ⟨gy, 0, none⟩ = some (.string ⟨st⟩) := byb.cell 0
                   have y1 : wb.cell? ⟨gy, 1, none⟩ = some (.int .i64 (cn : Int)) := byb.cell 1
                   have y2 : wb.cell? ⟨gy, 2, none⟩ = some (.int .i64 (wd : Int)) := byb.cell 2
                   have y3 : wb.cell? ⟨gy, 3, none⟩ = some (.int .i64 lm) := byb.cell 3
                   clear hxv bb bxb byb)
                | (go_at_call 35
                   refine (HE.out _).mono ?_
                   rintro e wc ⟨Ae, ce, rfl, hxe, bc⟩
                   have bac := on_trans HVx.out.2 bc
                   have HEx := Lib.hid (And.intro hxe (And.intro (HVx.out.1.below bc (fun _ hb _ => hb)) (And.intro (HA.out.1.on bac) (And.intro (HA.out.2.1.on bac) (And.intro (HA.out.2.2.1.on bac) (on_trans HA.out.2.2.2.2 bac))))))
                   have hwcs : wr.heap.size + 1 ≤ wc.heap.size := by have := bac.size; have := HA.out.2.2.2.1; omega
                   clear hxe bc bac)
                | ((with_reducible refine wpList_append_own3 (o := ⟨some 72, _, _, _, _, _⟩) el_byte rfl (.tmp 68) (.tmp 71) rfl B (.slice A13 n13 c13) n13 (cellsOf (hdr ++ outB l big src j)) rfl HEx.out.2.2.1.r1 _ Ae (4 + wd) ce (cellsOf (entB t k fn big)) rfl (rd_of_sl HEx.out.1) (cellsOf_one _) (by omega) (by omega) ?_)
                   intro v' w9 hown9 hk9 ha9
                   have hap := HEx.out.2.2.1.app1 (entB_fit t k fn big) hown9 hk9 ha9
                   obtain ⟨A9, c9, hv9, hx9⟩ := sl_of_own hap.r1 hap.f1
                   subst hv9
                   have hlt13 : ∀ i, (Value.slice A13 n13 c13).ownBlock = some i → B ≤ i ∧ i < wr.heap.size := fun i hi => own_lo HQ.out.1.r1 hi
                   have by9 := hk9.box HEx.out.2.2.2.2.1 (fun e => by have := hlt13 _ e; omega)
                   have z2 : w9.cell? ⟨gy, 2, none⟩ = some (.int .i64 (wd : Int)) := by9.cell 2
                   have HP9 := Lib.hid (And.intro hap (And.intro hx9 (And.intro (HEx.out.2.1.kept hk9 (fun i hi e => by have h7 : wa.heap.size ≤ i := hi; have := hlt13 _ e; have := HA.out.2.2.2.1; omega)) (And.intro by9 (below_kept (HQ.out.2.1.trans (HEx.out.2.2.2.2.2.mono hBr)) (by omega) hk9 (fun i hi => (hlt13 i hi).1))))))
                   have h9s : wr.heap.size + 1 ≤ w9.heap.size := Nat.le_trans hwcs hk9.size
                   have hc9 := hx9.max
                   unfold maxLen at hc9
                   clear hown9 hk9 ha9 hap hx9 hlt13 by9))
              all_goals have hn13' : n13 + (4 + wd) ≤ 1020 := by omega
              · have hwm : wd < m := by assumption
                have hP := put_own w9 _ A9 (n13 + (4 + wd)) c9 _ (src + (n15 : Int)) (wd : Int) false HP9.out.2.1 (by omega) (by omega)
                rw [Hww.out] at hP
                have HPt := Lib.hid hP
                obtain ⟨ev, hev⟩ : ∃ ev, evenN m = ev := ⟨_, rfl⟩
                have hev2 : m ≤ ev ∧ ev ≤ 16385 := by rw [← hev]; unfold evenN; omega
                have HEv := Lib.hid (fun w' => even_any m (by omega) w')
                rw [hev] at HEv
                have HEV := Lib.hid hev
                have hBw9 : B ≤ w9.heap.size := by omega
                clear hP hev
                go_wp2_with (first
                  | (go_at_call 24
                     refine HPt.out.mono ?_
                     rintro e wt hot
                     obtain ⟨gt, rfl, hRt, bt⟩ := HP9.out.1.new1 hBw9 hot
                     have HT := Lib.hid (And.intro hRt (And.intro bt (And.intro (HP9.out.2.2.1.on bt) (HP9.out.2.2.2.2.trans (bt.mono hBw9)))))
                     have hwts : w9.heap.size ≤ wt.heap.size := bt.size
                     clear hot hRt bt)
                  | (go_at_call 37
                     refine (HEv.out _).mono ?_
                     rintro e we ⟨rfl, rfl⟩)
                  | (go_at_call 36
                     refine (padded_any _ _ Av m cv (valB fx q) ev HT.out.2.2.1 hev2.1 (by omega)).mono ?_
                     rintro e wp ⟨Ap, cp, rfl, hxp, bp⟩
                     have HPd := Lib.hid (And.intro hxp (And.intro (HT.out.1.on bp) (HT.out.2.2.2.trans (bp.mono (by omega)))))
                     have hwps := bp.size
                     clear hxp bp)
                  | ((with_reducible refine wpList_append_own3 (o := ⟨some 92, _, _, _, _, _⟩) el_byte rfl (.tmp 86) (.tmp 91) rfl B (.slice A15 n15 c15) n15 (cellsOf (behB l big j)) rfl HPd.out.2.1.r2 _ Ap ev cp (cellsOf (padL (valB fx q) ev)) rfl (rd_of_sl HPd.out.1) (cellsOf_one _) (by omega) (by omega) ?_)
                     intro v' wq hownq hkq haq
                     have hap := HPd.out.2.1.app2 (padL_fit (valB_fit _ _) _) hownq hkq haq
                     have HZ := Lib.hid (And.intro hap (below_kept HPd.out.2.2 (by omega) hkq (fun i hi => (own_lo HPd.out.2.1.r2 hi).1)))
                     clear hownq hkq haq hap))
                go_roundw
                case rel =>
                  refine ⟨j + 1, by omega, by go_num, ?_, HZ.out.2⟩
                  have e1 := HM.out.1
                  have e2 := HM.out.2.1
                  have e3 := HM.out.2.2.1
                  rw [if_pos hwm] at e1 e2 e3
                  rw [HEV.out] at e2 e3
                  have hn := HQ.out.2.2.1
                  rw [e1, e2, e3, show cn + (j + 1) * en = n13 + (4 + wd) + wd by rw [Nat.add_mul]; omega]
                  have hz := HZ.out.1
                  simpa [List.append_assoc] using hz
                case measure => simp [intOf]; omega
              · have hwm : ¬ wd < m := by assumption
                go_wp2_with (first
                  | (go_at_call 36
                     refine (padded_any _ _ Av m cv (valB fx q) wd HP9.out.2.2.1 (by omega) (by omega)).mono ?_
                     rintro e wp ⟨Ap, cp, rfl, hxp, bp⟩
                     have HPd := Lib.hid (And.intro hxp (And.intro (HP9.out.1.on bp) (HP9.out.2.2.2.2.trans (bp.mono (by omega)))))
                     have hwps := bp.size
                     clear hxp bp)
                  | ((with_reducible refine wpList_append_own3 (o := ⟨some 98, _, _, _, _, _⟩) el_byte rfl (.tmp 93) (.tmp 97) rfl B (.slice A9 (n13 + (4 + wd)) c9) (n13 + (4 + wd)) (cellsOf ((hdr ++ outB l big src j) ++ entB t k fn big)) rfl HPd.out.2.1.r1 _ Ap wd cp (cellsOf (padL (valB fx q) wd)) rfl (rd_of_sl HPd.out.1) (cellsOf_one _) (by omega) (by omega) ?_)
                     intro v' wq hownq hkq haq
                     have hap := HPd.out.2.1.app1 (padL_fit (valB_fit _ _) _) hownq hkq haq
                     have HZ := Lib.hid (And.intro hap (below_kept HPd.out.2.2 (by omega) hkq (fun i hi => (own_lo HPd.out.2.1.r1 hi).1)))
                     clear hownq hkq haq hap))
                go_roundw
                case rel =>
                  refine ⟨j + 1, by omega, by go_num, ?_, HZ.out.2⟩
                  have e1 := HM.out.1
                  have e2 := HM.out.2.1
                  have e3 := HM.out.2.2.1
                  rw [if_neg hwm] at e1 e2 e3
                  have hn := HQ.out.2.2.1
                  rw [e1, e2, e3, show cn + (j + 1) * en = n13 + (4 + wd) + wd by rw [Nat.add_mul]; omega]
                  have hz := HZ.out.1
                  simpa [List.append_assoc] using hz
                case measure => simp [intOf]; omega
            · obtain rfl : j = n := by omega
              obtain ⟨A', c', hv', hx13⟩ := sl_of_own HQ.out.1.r1 HQ.out.1.f1
              obtain ⟨rfl, _, rfl⟩ := Value.slice.inj hv'
              obtain ⟨A', c', hv', hx15⟩ := sl_of_own HQ.out.1.r2 HQ.out.1.f2
              obtain ⟨rfl, _, rfl⟩ := Value.slice.inj hv'
              have hP := put_own wr _ A13 n13 c13 _ next (wd : Int) false hx13 (by omega) hnx
              rw [Hww.out] at hP
              have HPt := Lib.hid hP
              have y2 : wr.cell? ⟨gy, 2, none⟩ = some (.int .i64 (wd : Int)) := HY.out.cell 2
              clear hP hx13 hx15
              go_wp2_with (first
                | (go_at_call 24
                   refine HPt.out.mono ?_
                   rintro e wt hot
                   obtain ⟨gt, rfl, hRt, bt⟩ := HQ.out.1.new1 hBr hot
                   obtain ⟨A9', c9', hv9', hx9'⟩ := rd_of_own hRt.r2
                   obtain ⟨e1', _, e2'⟩ := Value.slice.inj hv9'
                   subst e1' e2'
                   have HX15 := Lib.hid hx9'
                   clear hx9' hv9'
                   have HT := Lib.hid (And.intro hRt (And.intro bt (on_trans HFl.out.2 bt)))
                   have hwts : wr.heap.size ≤ wt.heap.size := bt.size
                   clear hot hRt bt)
                | ((with_reducible refine wpList_append_own3 (o := ⟨some 107, _, _, _, _, _⟩) el_byte rfl (.tmp 105) (.tmp 106) rfl B (.slice (some ⟨gt, 0, none⟩) (n13 + wd) (n13 + wd)) (n13 + wd) (cellsOf ((hdr ++ outB l big src j) ++ told (max next 0) wd false)) rfl HT.out.1.r1 _ A15 n15 c15 (cellsOf (behB l big j)) rfl HX15.out (cellsOf_one _) (by omega) (by omega) ?_)
                   intro v' wq hownq hkq haq
                   have hap := HT.out.1.app1 HT.out.1.f2 hownq hkq haq
                   have HZ := Lib.hid (And.intro hap hkq)
                   clear hownq hkq haq hap))
              obtain ⟨A9, c9, hv9, hx9⟩ := sl_of_own HZ.out.1.r1 HZ.out.1.f1
              subst hv9
              have hl := H0.out.2.1
              have hwB : w.heap.size ≤ B := by rw [← hB]; exact H5.out.1.size
              have hsb : sumB l big = n15 := by
                have := HQ.out.2.2.2
                rwa [List.take_of_length_le (by omega)] at this
              have hfx := H0.out.2.2.2.1
              have hfx2 := hfx
              unfold fixedN at hfx2
              rw [H0.out.2.2.2.2.2.1, H0.out.2.2.2.2.2.2.1, HC.out.1] at hfx2
              have hsz' : sizeN l big = n13 + wd + n15 := by
                unfold sizeN
                rw [hl, hfx, hsb, ← HQ.out.2.2.1, ← hfx2]
              have hdir : dirB l big at_ next = ((hdr ++ outB l big src j) ++ told (max next 0) wd false) ++ behB l big j := by
                unfold dirB
                rw [hl, H0.out.2.2.2.2.2.1, H0.out.2.2.2.2.2.2.1, hfx, HC.out.2.1, HC.out.2.2]
              refine bodyPost_ret (v := .tuple #[.slice A9 (n13 + wd + n15) c9, .int .i64 0]) (by simp [results, Try.results15, go_sem]) rfl ⟨.inr (.inr ⟨H0.out.2.2.1, ⟨HOo.out, HKk.out, by rw [H0.out.2.2.2.2.1, H0.out.2.2.2.2.2.2.2]; exact hlt⟩, A9, c9, by rw [hsz'], ?_⟩), ?_⟩
              · rw [hsz', hdir]
                exact hx9.mono (fun b _ hb => Nat.le_trans hwB hb)
              · exact below_kept HT.out.2.2 HT.out.2.2.size HZ.out.2 (fun i hi => Nat.le_trans hwB (own_lo HT.out.1.r1 hi).1)
        · go_enter Try.func15, Try.ntmps15
          go_wp2_with (first
            | (go_at_call 18
               refine HSy.out.mono ?_
               rintro e w1 ⟨rfl, b1⟩
               have H1 := Lib.hid b1
               clear b1)
            | (go_at_call 22
               refine (HL.out _).mono ?_
               rintro e w2 ⟨rfl, b2⟩
               obtain ⟨w3, hw3⟩ : ∃ w3, w2.alloc (.cells #[.string ⟨st⟩, .int .i64 (cn : Int), .int .i64 (wd : Int), .int .i64 lm] 51) = w3 := ⟨_, rfl⟩
               have b3 : Below w2.heap.size w2 w3 := by rw [← hw3]; exact on_alloc _ _
               have bx3 : Box w3 w2.heap.size 51 #[.string ⟨st⟩, .int .i64 (cn : Int), .int .i64 (wd : Int), .int .i64 lm] := by rw [← hw3]; exact Box.made _ _ _
               have i0 : w3.cell? ⟨w2.heap.size, 0, none⟩ = some (.string ⟨st⟩) := bx3.cell 0
               have i1 : w3.cell? ⟨w2.heap.size, 1, none⟩ = some (.int .i64 (cn : Int)) := bx3.cell 1
               have i2 : w3.cell? ⟨w2.heap.size, 2, none⟩ = some (.int .i64 (wd : Int)) := bx3.cell 2
               have i3 : w3.cell? ⟨w2.heap.size, 3, none⟩ = some (.int .i64 lm) := bx3.cell 3
               have H3 := Lib.hid (And.intro (on_trans (on_trans H1.out b2) b3) bx3)
               clear b2 b3 bx3)
            | (go_at_call 32
               refine (HO.out _).mono ?_
               rintro e w4 ⟨rfl, b4⟩
               have bx4 := H3.out.2.on b4
               have k0 : w4.cell? ⟨w2.heap.size, 0, none⟩ = some (.string ⟨st⟩) := bx4.cell 0
               have k1 : w4.cell? ⟨w2.heap.size, 1, none⟩ = some (.int .i64 (cn : Int)) := bx4.cell 1
               have k2 : w4.cell? ⟨w2.heap.size, 2, none⟩ = some (.int .i64 (wd : Int)) := bx4.cell 2
               have k3 : w4.cell? ⟨w2.heap.size, 3, none⟩ = some (.int .i64 lm) := bx4.cell 3
               have H4 := Lib.hid (And.intro (on_trans H3.out.1 b4) bx4)
               clear b4 bx4)
            | (go_at_call 23
               refine (HK.out _).mono ?_
               rintro e w5 ⟨rfl, b5⟩
               have bx5 := H4.out.2.on b5
               have m0 : w5.cell? ⟨w2.heap.size, 0, none⟩ = some (.string ⟨st⟩) := bx5.cell 0
               have m1 : w5.cell? ⟨w2.heap.size, 1, none⟩ = some (.int .i64 (cn : Int)) := bx5.cell 1
               have m2 : w5.cell? ⟨w2.heap.size, 2, none⟩ = some (.int .i64 (wd : Int)) := bx5.cell 2
               have m3 : w5.cell? ⟨w2.heap.size, 3, none⟩ = some (.int .i64 lm) := bx5.cell 3
               have H5 := Lib.hid (And.intro (on_trans H4.out.1 b5) bx5)
               clear b5 bx5))
          exact bodyPost_ret (v := .tuple #[.slice none 0 0, .int .i64 2]) (by simp [results, Try.results15, go_sem]) rfl ⟨.inr (.inl ⟨H0.out.2.2.1, (fun h => absurd (show at_ + (S : Int) < lm by have := h.2.2; rw [H0.out.2.2.2.2.1, H0.out.2.2.2.2.2.2.2] at this; exact this) (by omega)), rfl⟩), H5.out.1⟩
      · have hkd : decide (IsLink big next) = false := decide_eq_false hk
        rw [hkd] at HK
        have HKk := Lib.hid hk
        clear hkd hk
        go_enter Try.func15, Try.ntmps15
        go_wp2_with (first
          | (go_at_call 18
             refine HSy.out.mono ?_
             rintro e w1 ⟨rfl, b1⟩
             have H1 := Lib.hid b1
             clear b1)
          | (go_at_call 22
             refine (HL.out _).mono ?_
             rintro e w2 ⟨rfl, b2⟩
             obtain ⟨w3, hw3⟩ : ∃ w3, w2.alloc (.cells #[.string ⟨st⟩, .int .i64 (cn : Int), .int .i64 (wd : Int), .int .i64 lm] 51) = w3 := ⟨_, rfl⟩
             have b3 : Below w2.heap.size w2 w3 := by rw [← hw3]; exact on_alloc _ _
             have bx3 : Box w3 w2.heap.size 51 #[.string ⟨st⟩, .int .i64 (cn : Int), .int .i64 (wd : Int), .int .i64 lm] := by rw [← hw3]; exact Box.made _ _ _
             have i0 : w3.cell? ⟨w2.heap.size, 0, none⟩ = some (.string ⟨st⟩) := bx3.cell 0
             have i1 : w3.cell? ⟨w2.heap.size, 1, none⟩ = some (.int .i64 (cn : Int)) := bx3.cell 1
             have i2 : w3.cell? ⟨w2.heap.size, 2, none⟩ = some (.int .i64 (wd : Int)) := bx3.cell 2
             have i3 : w3.cell? ⟨w2.heap.size, 3, none⟩ = some (.int .i64 lm) := bx3.cell 3
             have H3 := Lib.hid (And.intro (on_trans (on_trans H1.out b2) b3) bx3)
             clear b2 b3 bx3)
          | (go_at_call 32
             refine (HO.out _).mono ?_
             rintro e w4 ⟨rfl, b4⟩
             have bx4 := H3.out.2.on b4
             have k0 : w4.cell? ⟨w2.heap.size, 0, none⟩ = some (.string ⟨st⟩) := bx4.cell 0
             have k1 : w4.cell? ⟨w2.heap.size, 1, none⟩ = some (.int .i64 (cn : Int)) := bx4.cell 1
             have k2 : w4.cell? ⟨w2.heap.size, 2, none⟩ = some (.int .i64 (wd : Int)) := bx4.cell 2
             have k3 : w4.cell? ⟨w2.heap.size, 3, none⟩ = some (.int .i64 lm) := bx4.cell 3
             have H4 := Lib.hid (And.intro (on_trans H3.out.1 b4) bx4)
             clear b4 bx4)
          | (go_at_call 23
             refine (HK.out _).mono ?_
             rintro e w5 ⟨rfl, b5⟩
             have bx5 := H4.out.2.on b5
             have m0 : w5.cell? ⟨w2.heap.size, 0, none⟩ = some (.string ⟨st⟩) := bx5.cell 0
             have m1 : w5.cell? ⟨w2.heap.size, 1, none⟩ = some (.int .i64 (cn : Int)) := bx5.cell 1
             have m2 : w5.cell? ⟨w2.heap.size, 2, none⟩ = some (.int .i64 (wd : Int)) := bx5.cell 2
             have m3 : w5.cell? ⟨w2.heap.size, 3, none⟩ = some (.int .i64 lm) := bx5.cell 3
             have H5 := Lib.hid (And.intro (on_trans H4.out.1 b5) bx5)
             clear b5 bx5))
        exact bodyPost_ret (v := .tuple #[.slice none 0 0, .int .i64 2]) (by simp [results, Try.results15, go_sem]) rfl ⟨.inr (.inl ⟨H0.out.2.2.1, (fun h => HKk.out h.2.1), rfl⟩), H5.out.1⟩
    · have hod : decide (IsOff big at_) = false := decide_eq_false ho
      rw [hod] at HO
      have HOo := Lib.hid ho
      clear hod ho
      go_enter Try.func15, Try.ntmps15
      go_wp2_with (first
        | (go_at_call 18
           refine HSy.out.mono ?_
           rintro e w1 ⟨rfl, b1⟩
           have H1 := Lib.hid b1
           clear b1)
        | (go_at_call 22
           refine (HL.out _).mono ?_
           rintro e w2 ⟨rfl, b2⟩
           obtain ⟨w3, hw3⟩ : ∃ w3, w2.alloc (.cells #[.string ⟨st⟩, .int .i64 (cn : Int), .int .i64 (wd : Int), .int .i64 lm] 51) = w3 := ⟨_, rfl⟩
           have b3 : Below w2.heap.size w2 w3 := by rw [← hw3]; exact on_alloc _ _
           have bx3 : Box w3 w2.heap.size 51 #[.string ⟨st⟩, .int .i64 (cn : Int), .int .i64 (wd : Int), .int .i64 lm] := by rw [← hw3]; exact Box.made _ _ _
           have i0 : w3.cell? ⟨w2.heap.size, 0, none⟩ = some (.string ⟨st⟩) := bx3.cell 0
           have i1 : w3.cell? ⟨w2.heap.size, 1, none⟩ = some (.int .i64 (cn : Int)) := bx3.cell 1
           have i2 : w3.cell? ⟨w2.heap.size, 2, none⟩ = some (.int .i64 (wd : Int)) := bx3.cell 2
           have i3 : w3.cell? ⟨w2.heap.size, 3, none⟩ = some (.int .i64 lm) := bx3.cell 3
           have H3 := Lib.hid (And.intro (on_trans (on_trans H1.out b2) b3) bx3)
           clear b2 b3 bx3)
        | (go_at_call 32
           refine (HO.out _).mono ?_
           rintro e w4 ⟨rfl, b4⟩
           have bx4 := H3.out.2.on b4
           have k0 : w4.cell? ⟨w2.heap.size, 0, none⟩ = some (.string ⟨st⟩) := bx4.cell 0
           have k1 : w4.cell? ⟨w2.heap.size, 1, none⟩ = some (.int .i64 (cn : Int)) := bx4.cell 1
           have k2 : w4.cell? ⟨w2.heap.size, 2, none⟩ = some (.int .i64 (wd : Int)) := bx4.cell 2
           have k3 : w4.cell? ⟨w2.heap.size, 3, none⟩ = some (.int .i64 lm) := bx4.cell 3
           have H4 := Lib.hid (And.intro (on_trans H3.out.1 b4) bx4)
           clear b4 bx4)
        | (go_at_call 23
           refine (HK.out _).mono ?_
           rintro e w5 ⟨rfl, b5⟩
           have bx5 := H4.out.2.on b5
           have m0 : w5.cell? ⟨w2.heap.size, 0, none⟩ = some (.string ⟨st⟩) := bx5.cell 0
           have m1 : w5.cell? ⟨w2.heap.size, 1, none⟩ = some (.int .i64 (cn : Int)) := bx5.cell 1
           have m2 : w5.cell? ⟨w2.heap.size, 2, none⟩ = some (.int .i64 (wd : Int)) := bx5.cell 2
           have m3 : w5.cell? ⟨w2.heap.size, 3, none⟩ = some (.int .i64 lm) := bx5.cell 3
           have H5 := Lib.hid (And.intro (on_trans H4.out.1 b5) bx5)
           clear b5 bx5))
      exact bodyPost_ret (v := .tuple #[.slice none 0 0, .int .i64 2]) (by simp [results, Try.results15, go_sem]) rfl ⟨.inr (.inl ⟨H0.out.2.2.1, (fun h => HOo.out h.1), rfl⟩), H4.out.1⟩
  · have HSy := Lib.hid (HSz.out.mono (R' := fun r w' => r = .returned (.tuple #[.int .i64 0, .int .i64 1]) ∧ Below w.heap.size w w') (fun r w' h => ⟨(h.1.resolve_right (fun h => hd h.1)).2, h.2⟩))
    have HD := Lib.hid hd
    clear hx hlen hd HSz
    go_enter Try.func15, Try.ntmps15
    go_wp2_with (go_at_call 18
                 refine HSy.out.mono ?_
                 rintro e w1 ⟨rfl, b1⟩
                 have H1 := Lib.hid b1
                 clear b1)
    exact bodyPost_ret (v := .tuple #[.slice none 0 0, .int .i64 1]) (by simp [results, Try.results15, go_sem]) rfl ⟨.inl ⟨HD.out, rfl⟩, H1.out⟩
end Go.Proofs.Ytnakfdaneejcfaa
