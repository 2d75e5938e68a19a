/-
  Rows of blocks that are written block by block; Get's two functions: the contracts of Get$1 (a block is got) and Get$2 (a restart is read).
-/
import Derived.Test.YtdnjnbfmmgkpjaaDoorGB
import Derived.Test.YtdnjnbfmmgkpjaaDoorGD
import Derived.Test.YtdnjnbfmmgkpjaaDoorSY
namespace Go.Proofs.YtdnjnbfmmgkpjaaDoor
open Go.RowKit

theorem kept_sc (b : Nat) : ∀ (vs : List Value) (o : Nat) (w : World), Kept (fun i => i = b) w (w.setCells b o vs)
  | [], _, w => Kept.refl _ w
  | v :: r, o, w => ((Kept.refl (fun i => i = b) w).setCell (p := ⟨b, o, none⟩) (fun _ => rfl) v).trans (kept_sc b r (o + 1) _) (fun _ _ h => h)
theorem box_setCells (b : Nat) (t : TypeId) : ∀ (vs : List Value) (o : Nat) (w : World) (cs : Array Value), Box w b t cs → ∃ cs', Box (w.setCells b o vs) b t cs'
  | [], _, _, cs, h => ⟨cs, h⟩
  | v :: r, o, _, _, h => box_setCells b t r (o + 1) _ _ (h.put o v)
/-- a row of n blocks in a block of memory of its own -/
structure Bk (w : World) (b n : Nat) (bl : List (List Int)) : Prop where
  len : bl.length = n
  wide : ∀ x ∈ bl, x.length = 64
  box : ∃ cs, Box w b 25 cs
  row : ∀ i x, bl[i]? = some x → w.rangeAt b (i * 64) (cellsI x)
  all : w.there b 0 (n * 64)
section
variable {w w' : World} {b n : Nat} {bl : List (List Int)}
theorem Bk.lt (h : Bk w b n bl) : b < w.heap.size := by
  obtain ⟨cs, h⟩ := h.box
  exact h.lt
theorem Bk.kept {S : Nat → Prop} (h : Bk w b n bl) (k : Kept S w w') (hS : ¬ S b) : Bk w' b n bl := by
  have hl := h.lt
  obtain ⟨cs, hb⟩ := h.box
  refine ⟨h.len, h.wide, ⟨cs, k.box hb hS⟩, fun i x hx j v hv => (k.cell (p := ⟨b, i * 64 + j, none⟩) hl hS).trans (h.row i x hx j v hv), fun j hj => ⟨by rw [k.cell (p := ⟨b, 0 + j, none⟩) hl hS]; exact (h.all j hj).1, by rw [k.frozen hl hS]; exact (h.all j hj).2⟩⟩
theorem Bk.on (h : Bk w b n bl) (k : Below w.heap.size w w') : Bk w' b n bl := h.kept (Kept.of_below k (fun _ => False)) (fun h => h)
theorem Bk.there (h : Bk w b n bl) {k : Nat} (hk : k < n) : w.there b (k * 64) 64 := fun j hj => by
  have := h.all (k * 64 + j) (by have := Nat.mul_le_mul_right 64 (show k + 1 ≤ n from hk); omega)
  rwa [Nat.zero_add] at this
theorem Bk.put (h : Bk w b n bl) {k : Nat} (hk : k < n) {x : List Int} (hx : x.length = 64) : Bk (w.setCells b (k * 64) (cellsI x)) b n (bl.set k x) := by
  have hl : (cellsI x).length = 64 := by rw [cellsI_len, hx]
  obtain ⟨cs, hb⟩ := h.box
  refine ⟨by rw [List.length_set]; exact h.len, fun y hy => ?_, box_setCells b 25 _ _ _ _ hb, fun i y hy => ?_, World.there_setCells h.all _ _ _⟩
  · rcases List.mem_or_eq_of_mem_set hy with h1 | h1
    · exact h.wide y h1
    · rw [h1]; exact hx
  · by_cases e : i = k
    · subst e
      rw [List.getElem?_set_self (by rw [h.len]; exact hk)] at hy
      cases hy
      exact World.rangeAt_setCells_same w b (i * 64) _ (by rw [hl]; exact h.there hk)
    · rw [List.getElem?_set_ne (fun e' => e e'.symm)] at hy
      have hyl := h.wide y (List.mem_of_getElem? hy)
      refine World.rangeAt_setCells_apart (h.row i y hy) _ _ _ (Or.inr ?_)
      rw [cellsI_len, hyl, hl]
      rcases Nat.lt_or_ge i k with h1 | h1
      · exact .inl (by have := Nat.mul_le_mul_right 64 (show i + 1 ≤ k by omega); omega)
      · exact .inr (by have := Nat.mul_le_mul_right 64 (show k + 1 ≤ i by omega); omega)
theorem Bk.bs (h : Bk w b n bl) : Bs w (some ⟨b, 0, none⟩) n bl := by
  have hl := h.lt
  refine ⟨h.len, h.wide, fun _ => ⟨b, 0, rfl, hl, fun i x hx j hj => ?_⟩⟩
  rw [Nat.zero_add]
  exact h.row i x hx j _ (cellsI_get _ _ (by rw [h.wide x (List.mem_of_getElem? hx)]; exact hj))
end
/-- a row of blocks, made of its cells -/
theorem bk_of_box {w : World} {b n : Nat} {bl : List (List Int)} (h : Box w b 25 (blocksC bl).toArray) (hl : bl.length = n) (hw : ∀ x ∈ bl, x.length = 64) : Bk w b n bl := by
  have hcl := blocksC_len hw
  refine ⟨hl, hw, ⟨_, h⟩, fun i x hx j v hv => ?_, fun j hj => ⟨?_, h.free _⟩⟩
  · have hj := (List.getElem?_eq_some_iff.1 hv).1
    have hxl := hw x (List.mem_of_getElem? hx)
    rw [cellsI_len, hxl] at hj
    rw [h.cell, List.getElem?_toArray, blocksC_at hw hx hj, ← hv, cellsI_get _ _ (by omega)]
  · rw [h.cell, Nat.zero_add, List.getElem?_toArray, List.getElem?_eq_getElem (by omega)]
    rfl
theorem bk_made (w : World) (n : Nat) : Bk (w.alloc (.cells (blocksC (List.replicate n zeros64)).toArray 25)) w.heap.size n (List.replicate n zeros64) :=
  bk_of_box (Box.made _ _ _) (by simp) (fun x hx => by rw [List.eq_of_mem_replicate hx]; rfl)
theorem ptr97_size : (Tryd.prog.info? 97).map (·.size) = some 1 := by kernel_rfl
section
variable (w : World) (gc gr r g lo N p : Nat) (T : Tbs) (P : Nat → Value) (z : Int) (bb n k : Nat) (bl : List (List Int)) (l : List Int) (s : St)
/-- what Get$1 tells -/
def GotT1 (w : World) (r g bb n k : Nat) (bl : List (List Int)) (l : List Int) (R : St × List Int × Int) (e : Ending) (w' : World) : Prop :=
  e = .returned (.int .i64 R.2.2) ∧ Rd w' r g l R.1 ∧ Bk w' bb n (bl.set k R.2.1) ∧ Kept (fun i => i = r ∨ i = bb) w w'
set_option maxRecDepth 10000 in
set_option maxHeartbeats 3200000 in
theorem getB1_any (hT : Tab w) (hc : Box w gc 69 (cod4 P)) (hR : CodR w lo N T P (min p 1)) (hv : Valid (T.B (min p 1)) (T.V (min p 1)) ∧ Valid (T.B (min p 1 + 2)) (T.V (min p 1 + 2))) (hw : Box w gr 97 #[.pointer (some ⟨r, 0, none⟩)]) (hx : Rd w r g l s) (hd : N ≤ r) (hN : N ≤ w.heap.size) (h0 : 0 < N)
    (hp : p ≤ 3) (hb : Bk w bb n bl) (hk : k < n) :
    Calls Tryd.prog 39 #[.int .i64 (p : Int), .pointer (some ⟨bb, k * 64, none⟩), .int .i64 z, .pointer (some ⟨gc, 0, none⟩), .pointer (some ⟨gr, 0, none⟩)] w (GotT1 w r g bb n k bl l (blockF (Cd T p) (Ca T p) l s z)) := by
  obtain ⟨l1, h1, t1, l2, h2, t2, e1, e2, b1, b2, r1, r2, r3, r4⟩ := hR
  obtain ⟨c, hcc⟩ : ∃ c, c = min p 1 := ⟨_, rfl⟩
  have hc2 : c ≤ 1 := by rw [hcc]; exact Nat.min_le_right _ _
  rw [← hcc] at e1 e2 b1 b2 hv
  have hCd : Cd T p = codes (T.B c) (T.V c) := by rw [Cd, ← hcc]
  have hCa : Ca T p = codes (T.B (c + 2)) (T.V (c + 2)) := by rw [Ca, ← hcc]
  rw [hCd, hCa]
  have hwh := fun w' => which_any w' p (by omega)
  rw [← hcc] at hwh
  have HWh := Lib.hid hwh
  have hci : (c : Int) < 2 := by omega
  have hk0 : w.cell? ⟨gc, c * 2, none⟩ = some (.pointer (some ⟨t1, 0, none⟩)) := by
    rw [hc.cell]
    rcases (show c = 0 ∨ c = 1 by omega) with rfl | rfl
    · rw [← e1]; rfl
    · rw [← e1]; rfl
  have hk1 : w.cell? ⟨gc, c * 2 + 1, none⟩ = some (.pointer (some ⟨t2, 0, none⟩)) := by
    rw [hc.cell]
    rcases (show c = 0 ∨ c = 1 by omega) with rfl | rfl
    · rw [← e2]; rfl
    · rw [← e2]; rfl
  have hld : (Instr.loadAt 68 (.pointer (some ⟨gc, c * 2, none⟩))).run Tryd.prog w = .ok (.agg #[.pointer (some ⟨t1, 0, none⟩), .pointer (some ⟨t2, 0, none⟩)]) w :=
    run_loadAt_mid w gc (c * 2) 68 [.pointer (some ⟨t1, 0, none⟩), .pointer (some ⟨t2, 0, none⟩)] _ (fun k u hu => by
      match k, hu with
      | 0, hu => rw [Nat.add_zero, hk0]; exact hu
      | 1, hu => rw [hk1]; exact hu) Tryd.underlying68 rfl (by rw [coder_size]; rfl)
  have HLd := Lib.hid hld
  obtain ⟨w1, hw1⟩ : ∃ w1, w.alloc (.cells #[.pointer (some ⟨t1, 0, none⟩), .pointer (some ⟨t2, 0, none⟩)] 68) = w1 := ⟨_, rfl⟩
  obtain ⟨g9, hg9⟩ : ∃ g9, w.heap.size = g9 := ⟨_, rfl⟩
  have b9 : Box w1 g9 68 #[.pointer (some ⟨t1, 0, none⟩), .pointer (some ⟨t2, 0, none⟩)] := by rw [← hw1, ← hg9]; exact Box.made _ _ _
  have k1 : Below w.heap.size w w1 := by rw [← hw1]; exact on_alloc _ _
  have q4 : w1.cell? ⟨gr, 0, none⟩ = some (.pointer (some ⟨r, 0, none⟩)) := (hw.on k1).cell 0
  have q90 : w1.cell? ⟨g9, 0, none⟩ = some (.pointer (some ⟨t1, 0, none⟩)) := b9.cell 0
  have q91 : w1.cell? ⟨g9, 1, none⟩ = some (.pointer (some ⟨t2, 0, none⟩)) := b9.cell 1
  have hrb : r ≠ bb := by
    obtain ⟨cs, hbx⟩ := hb.box
    exact hx.box.apart hbx (by decide)
  have HG := Lib.hid (getB_any w1 l1 h1 t1 l2 h2 t2 r g (T.B c) (T.V c) (T.B (c + 2)) (T.V (c + 2)) l s z (hT.on k1) (b1.on k1) hv.1 (b2.on k1) hv.2 (hx.on k1) (by omega) (by omega) (by have := k1.size; omega) (by have := k1.size; omega) (by omega))
  have HB := Lib.hid (And.intro (hb.on k1) (And.intro k1 (And.intro hk hrb)))
  have hz68 : ∀ w, (zeroValue 68).run Tryd.prog w = .ok (.agg #[.pointer none, .pointer none]) w := fun w => by kernel_rfl
  obtain ⟨R, hRR⟩ : ∃ R, R = blockF (codes (T.B c) (T.V c)) (codes (T.B (c + 2)) (T.V (c + 2))) l s z := ⟨_, rfl⟩
  have hRl : R.2.1.length = 64 := by rw [hRR]; exact blockF_len _ _ _ _ _
  rw [← hRR] at HG ⊢
  have HRl := Lib.hid hRl
  clear hT hc hv hw hx hwh hk0 hk1 hld b9 b1 b2 hb e1 e2 hCd hCa hcc k1 hRR hRl
  unfold GotB at HG
  obtain ⟨R1, R2, R3⟩ := R
  obtain ⟨C, hC⟩ : ∃ C, C = (cellsI R2).toArray := ⟨_, rfl⟩
  have eC : blkV R2 = .agg C := by rw [hC]; rfl
  dsimp only at HG HRl ⊢
  rw [eC] at HG
  have HCC := Lib.hid (And.intro (show C.size = 64 by rw [hC, List.size_toArray, cellsI_len]; exact HRl.out) (And.intro (show C.all (·.oneCell') = true by rw [hC]; exact all_oneCell_toArray (cellsI_one _)) (show C.toList = cellsI R2 by rw [hC])))
  clear hC eC
  go_enter Tryd.func39, Tryd.ntmps39
  go_upto_region 2 with (first
    | (go_at_call 25; with_reducible refine (HWh.out _).mono ?_; rintro e w6 ⟨rfl, rfl⟩)
    | (with_reducible refine wpList_load_to (op := ⟨some 13, _, _, _, _, _⟩) rfl 68 (.tmp 12) rfl (.pointer (some ⟨gc, c * 2, none⟩)) rfl (.agg #[.pointer (some ⟨t1, 0, none⟩), .pointer (some ⟨t2, 0, none⟩)]) HLd.out ?_)
    | fail)
  clear hw1
  go_wp2_with (first
    | (go_at_call 40; refine Calls.mono HG.out ?_
       rintro e w2 ⟨rfl, hr2, k2⟩
       have H2 := Lib.hid (And.intro hr2 (And.intro k2 (HB.out.1.kept k2 (fun e => HB.out.2.2.2 e.symm))))
       clear hr2 k2)
    | (with_reducible refine wpList_store_mid (op := ⟨none, _, _, _, _, _⟩) rfl 25 (.tmp 25) (.tmp 23) rfl bb (k * 64) C rfl rfl (by rw [HCC.out.1]; exact H2.out.2.2.there HB.out.2.2.1) (by rw [HCC.out.1]; exact arr23_size) HCC.out.2.1 ?_)
    | fail)
  go_ret
  have hp2 := H2.out.2.2.put HB.out.2.2.1 HRl.out
  have ks := kept_sc bb (cellsI R2) (k * 64) w2
  rw [HCC.out.2.2]
  refine ⟨rfl, H2.out.1.kept ks (fun e => HB.out.2.2.2 e) (fun e => ?_), hp2, ((Kept.of_below HB.out.2.1 (fun i => i = r ∨ i = bb)).trans (H2.out.2.1.mono (fun _ _ e => .inl e)) (fun _ _ h => h)).trans (ks.mono (fun _ _ e => .inr e)) (fun _ _ h => h)⟩
  obtain ⟨cs, hbx⟩ := H2.out.2.2.box
  exact H2.out.1.own.apart hbx (by decide) e
/-- what Get$2 tells -/
def restE (R : St × Nat × Int) (c : Nat) : Int := if R.2.2 = 0 then (if R.2.1 = c then 0 else 7) else R.2.2
set_option maxRecDepth 10000 in
set_option maxHeartbeats 1600000 in
theorem getB2_any (code : Nat) (hcode : code ≤ 255) (hw : Box w gr 97 #[.pointer (some ⟨r, 0, none⟩)]) (hx : Rd w r g l s) :
    Calls Tryd.prog 41 #[.int .i64 (code : Int), .pointer (some ⟨gr, 0, none⟩)] w fun e w' => e = .returned (.int .i64 (restE (markF l s) code)) ∧ Rd w' r g l (markF l s).1 ∧ Kept (fun i => i = r) w w' := by
  have q0 : w.cell? ⟨gr, 0, none⟩ = some (.pointer (some ⟨r, 0, none⟩)) := hw.cell 0
  have HM := Lib.hid (marker_any w r g l s hx)
  have hm2 : (markF l s).2.1 < 256 := by
    unfold markF
    split
    · have := hx.fit.getD (s.at_ + 1)
      show (l.getD (s.at_ + 1) 0).toNat < 256
      omega
    · show 0 < 256
      omega
  unfold Got at HM
  obtain ⟨R, hR⟩ : ∃ R, R = markF l s := ⟨_, rfl⟩
  rw [← hR] at HM hm2 ⊢
  obtain ⟨R1, R2, R3⟩ := R
  dsimp only at HM hm2 ⊢
  clear hw hx hR
  unfold restE
  dsimp only
  by_cases h0 : R3 = 0
  · subst h0
    rw [if_pos rfl]
    by_cases h1 : R2 = code
    · subst h1
      rw [if_pos rfl]
      go_enter Tryd.func41, Tryd.ntmps41
      go_wp2_with (first
        | (go_at_call 42; refine Calls.mono HM.out ?_
           rintro e w2 ⟨rfl, hr2, k2⟩
           have H2 := Lib.hid (And.intro hr2 k2)
           clear hr2 k2)
        | fail)
      go_ret
      exact ⟨rfl, H2.out⟩
    · rw [if_neg h1]
      have h2 : ¬ (R2 : Int) = (code : Int) := by omega
      go_enter Tryd.func41, Tryd.ntmps41
      go_wp2_with (first
        | (go_at_call 42; refine Calls.mono HM.out ?_
           rintro e w2 ⟨rfl, hr2, k2⟩
           have H2 := Lib.hid (And.intro hr2 k2)
           clear hr2 k2)
        | fail)
      go_ret
      exact ⟨rfl, H2.out⟩
  · rw [if_neg h0]
    go_enter Tryd.func41, Tryd.ntmps41
    go_wp2_with (first
      | (go_at_call 42; refine Calls.mono HM.out ?_
         rintro e w2 ⟨rfl, hr2, k2⟩
         have H2 := Lib.hid (And.intro hr2 k2)
         clear hr2 k2)
      | fail)
    go_ret
    exact ⟨rfl, H2.out⟩
end
end Go.Proofs.YtdnjnbfmmgkpjaaDoor
