/-
  The contract of Of.
-/
import Derived.Test.YtghnhabpcikhgaaBytes
import Derived.Deep.RegionHeld3
namespace Go.Proofs.Ytghnhabpcikhgaa
open Go.RowKit Go.Maps
variable {X : Nat → Prop} {N : Nat}

/-- sector i of some bytes -/
def secOf (l : List Int) (i : Nat) : List Int := sec (l.drop (i * 128))
theorem good_secOf {l : List Int} (h : Fit l) (n : Nat) : Good n (secOf l) := fun _ _ => ⟨sec_len _, sec_fit (h.drop _)⟩
/-- bytes from o on -/
theorem Sl.since {w : World} {K : Nat → Prop} {b off n c o : Nat} {l : List Int} (h : Sl w K (some ⟨b, off, none⟩) n c l) (ho : o < n) : Sl w K (some ⟨b, off + o, none⟩) (n - o) (c - o) (l.drop o) := by
  have hl := h.len
  refine ⟨⟨h.bts.fit.drop o, fun h0 => ?_⟩, by rw [List.length_drop]; omega, by have := h.cap; omega, by have := h.max; omega, fun e => by cases e⟩
  obtain ⟨b', off', e, hb, hK, hc⟩ := h.bts.at_ (by omega)
  simp at e
  obtain ⟨rfl, rfl⟩ := e
  refine ⟨b, off + o, rfl, hb, hK, fun i hi => ?_⟩
  rw [List.length_drop] at hi
  rw [Nat.add_assoc, hc (o + i) (by omega)]
  simp [List.getD_eq_getElem?_getD, List.getElem?_drop]

/-- what Of stands on behind k rounds -/
structure OfAt (X : Nat → Prop) (w wr : World) (d cnt m : Nat) (l : List Int) (k : Nat) : Prop where
  bel : Below w.heap.size w wr
  newD : w.heap.size ≤ d
  newM : w.heap.size ≤ m
  box : Box wr d 59 (cellsD cnt m (.pointer none) 0 false)
  map : ∃ v, Mp wr m k v ∧ ∀ i, i < k → Sec X wr (v i) (secOf l i)
theorem OfAt.on {w wr w' : World} {d cnt m k : Nat} {l : List Int} (h : OfAt X w wr d cnt m l k) (b : Below wr.heap.size wr w') : OfAt X w w' d cnt m l k := by
  obtain ⟨v, hm, hs⟩ := h.map
  exact ⟨on_trans h.bel b, h.newD, h.newM, h.box.on b, v, hm.block (b.block m hm.lt), fun i hi => (hs i hi).keep fun _ _ hb _ => hb.on b⟩
theorem OfAt.put {w wr w' : World} {d cnt m k g : Nat} {l : List Int} {v : Nat → Value} (h : OfAt X w wr d cnt m l k) (hv : Mp wr m k v) (hs : ∀ i, i < k → Sec X wr (v i) (secOf l i)) (hb : Box wr g 5 (cellsOf (secOf l k)).toArray) (hx : ¬ X g)
    (hm : Mp w' m (k + 1) (fun x => if x = k then .slice (some ⟨g, 0, none⟩) 128 128 else v x)) (hg : wr.grownBy w' (some m)) : OfAt X w w' d cnt m l (k + 1) := by
  obtain ⟨es, c, hes⟩ := hv.is
  have hbox : ∀ b t cs, Box wr b t cs → Box w' b t cs := fun b t cs hb => (hg.block b hb.lt fun e => by
    cases e
    unfold Box at hb
    rw [hes] at hb
    cases hb).trans hb
  refine ⟨h.bel.trans ⟨hg.os, hg.tape, hg.output, hg.size, fun i hi => hg.block i (Nat.lt_of_lt_of_le hi h.bel.size) fun e => by have := h.newM; cases e; omega⟩, h.newD, h.newM, hbox _ _ _ h.box, _, hm, fun i hi => ?_⟩
  show Sec X w' (if i = k then _ else _) _
  split
  · next e => subst e; exact .inr ⟨g, rfl, hbox _ _ _ hb, hx⟩
  · exact (hs i (by omega)).keep fun _ _ hb _ => hbox _ _ _ hb

set_option maxRecDepth 10000 in
set_option maxHeartbeats 1600000 in
theorem of_some (w : World) (K : Nat → Prop) (A : Option Addr) (n c : Nat) (l : List Int) (h : Sl w K A n c l) (h1 : 1 ≤ n) (h2 : n ≤ 524288) (hX : ∀ k, w.heap.size ≤ k → ¬ X k) :
    Calls Try.prog 9 #[.slice A n c] w fun e w' => ∃ d, e = .returned (.pointer (some ⟨d, 0, none⟩)) ∧ w.heap.size ≤ d ∧ Disk X 5000 w' d ((n + 127) / 128) (secOf l) [] false ∧ Below w.heap.size w w' := by
  obtain ⟨cnt, hcnt⟩ : ∃ cnt, cnt = (n + 127) / 128 := ⟨_, rfl⟩
  have hc1 : 1 ≤ cnt := by omega
  have hc2 : cnt ≤ 4096 := by omega
  have hc3 : ((n : Int) + 128 - 1) / 128 = (cnt : Int) := by omega
  obtain ⟨b, off, e0, hy⟩ := h.bts.at_ (by have := h.len; omega)
  subst e0
  clear hy
  have hcap := h.cap
  have hmax := h.max
  unfold maxLen at hmax
  rw [← hcnt]
  have HH := Lib.hid (And.intro h (And.intro hX hcnt))
  clear h hX hcnt
  go_enter Try.func9, Try.ntmps9
  go_wp2_with fail
  rw [hc3]
  refine (new_cells w cnt hc1 hc2).mono ?_
  rintro e w1 ⟨rfl, hw1⟩
  obtain ⟨d, hd⟩ : ∃ d, d = w.heap.size + 1 := ⟨_, rfl⟩
  obtain ⟨m, hm⟩ : ∃ m, m = w.heap.size := ⟨_, rfl⟩
  rw [← hd]
  have hO : OfAt X w w1 d cnt m l 0 := by
    have hs : (w.alloc (.map #[] 0)).heap.size = w.heap.size + 1 := by simp
    have hmm := Mp.made w
    have b1 := on_alloc w (.map #[] 0)
    have b2 := on_alloc (w.alloc (.map #[] 0)) (.cells (cellsD cnt w.heap.size (.pointer none) 0 false) 59)
    have bx := Box.made (w.alloc (.map #[] 0)) 59 (cellsD cnt w.heap.size (.pointer none) 0 false)
    rw [hs, ← hd] at bx
    rw [hw1, hm]
    exact ⟨on_trans b1 b2, by omega, Nat.le_refl _, bx, _, hmm.block (b2.block _ (by omega)), fun i hi => by omega⟩
  have c0 := cellD0 hO.box
  have HO := Lib.hid hO
  clear hw1 hd hm hO
  go_wp2
  go_loopw [20] (fun i wr => ∃ k : Nat, k ≤ cnt ∧ i = .int .i64 k ∧ OfAt X w wr d cnt m l k) (fun i _ => cnt - (intOf i).toNat)
  case atStart => exact ⟨0, Nat.zero_le _, rfl, HO.out⟩
  case round =>
    obtain ⟨k, hkn, rfl, hO⟩ := hrel
    by_cases hlt : k < cnt
    · have c1 := cellD1 hO.box
      obtain ⟨o, ho⟩ : ∃ o, o = k * 128 := ⟨_, rfl⟩
      have ho1 : (k : Int) * 128 = (o : Int) := by omega
      have ho2 : o < n := by have := HH.out.2.2; omega
      have ho3 : (0 : Int) ≤ (o : Int) := by omega
      have ho4 : (o : Int) ≤ (n : Int) := by omega
      have ho5 : IntKind.i64.wrap (o : Int) = (o : Int) := by simp [IntKind.wrap, IntKind.bits, IntKind.signed]; omega
      have ho6 : ¬ c = o := by omega
      have HR := Lib.hid (And.intro hO (And.intro ho c1))
      clear hO ho c0 HO
      go_wp2_with fail
      have K1 := Lib.hid (show wr.drew.cell? ⟨d, 1, none⟩ = some (.map (some m)) from c1)
      clear c1
      go_region_held3 (fun w' => w'.cell? ⟨d, 1, none⟩ = some (.map (some m)))
        (first
          | exact K1.out
          | exact K2.out
          | exact K3.out)
        (first
          | (go_at_call 25
             refine (sector_any wr.drew K _ _ _ (l.drop o) (((HH.out.1.below HR.out.1.bel (fun _ hb _ => hb)).since ho2).drew)).mono ?_
             rintro e w2 ⟨rfl, hb2, b2⟩
             have hO2 := HR.out.1.on (on_trans (on_drew wr) b2)
             have K2 := Lib.hid (cellD1 hO2.box)
             obtain ⟨v, hv, hs⟩ := hO2.map
             obtain ⟨wz, hrun, hmz, hgz⟩ := Mp.store hv (by omega) k (by omega) (.slice (some ⟨wr.heap.size, 0, none⟩) 128 128)
             have hOz := hO2.put hv hs (by have := hb2; rw [HR.out.2.1] at this; exact this) (HH.out.2.1 wr.heap.size HR.out.1.bel.size) hmz hgz
             have K3 := Lib.hid (cellD1 hOz.box)
             have HZ := Lib.hid hOz
             clear hb2 b2 hO2 hv hs hmz hgz hOz))
      all_goals
        (go_wp2
         go_roundw
         case rel => exact ⟨k + 1, by omega, by go_num, HZ.out⟩
         case measure => simp [intOf]; omega)
    · have ek : k = cnt := by omega
      have HR := Lib.hid (And.intro hO ek)
      clear hO ek c0 HO
      go_wp2
      go_ret
      obtain ⟨hO, ek⟩ := HR.out
      obtain ⟨v, hv, hs⟩ := hO.map
      refine ⟨d, rfl, hO.newD, ⟨m, .pointer none, k, v, [], hO.box, hv, by omega, fun i hi => hs i (by omega), good_secOf HH.out.1.bts.fit cnt, ⟨(fun e he => by cases he), .inl ⟨rfl, rfl⟩⟩, rfl, (fun x hx => by cases hx), Nat.zero_le _, hc2⟩, hO.bel⟩

end Go.Proofs.Ytghnhabpcikhgaa
